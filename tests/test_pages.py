"""Promises 15 and 16: the body of pages, written and read."""

import itertools
import random
import re
import unittest

from doorkinds.errors import DoorError, NoBody
from doorkinds.pages import read, written
from oddities import ANYTHING, NO_TEXTS, SIGNS
from samples import NUMBERS, PAUSE, W, loud, some_sayings, within

A, B = ("word", "a"), ("word", "b")
NAME = ("name", "/hill/ann")
PICTURE = ("picture", ("012", "345"))
TAGGED = [("<br>", PAUSE), ("<a /hill/ann>", NAME), ("<img 012/345>", PICTURE)]


def grammar():
    """What may be written, with a line feed behind each text, as a pattern."""
    item = "(?:[a-z]{1,8}|0|-?[1-9][0-9]{0,9})"
    text = f"(?:{item}(?: {item})*\n)"
    tag = "(?:<br>|<a (?:/[a-z]{1,8}){1,3}>|<img [0-9]{1,8}(?:/[0-9]{1,8}){0,5}>)\n"
    pattern = f"{text}?(?:{tag}{text}?)*"
    for _ in range(3):
        pattern = f"{text}?(?:(?:{tag}|<b>\n(?!</b>){pattern}</b>\n){text}?)*"
    return re.compile(pattern)


MAY_BE_WRITTEN = grammar()


class Written(unittest.TestCase):
    def comes_to(self, saying, *body):
        with self.subTest(saying=saying):
            told = written(saying)
            self.assertIs(type(told), tuple)
            self.assertEqual(told, body)
            self.assertEqual(read(body), saying)

    def test_each_part(self):
        self.comes_to((W,), "hi")
        self.comes_to((("number", -12),), "-12")
        self.comes_to((loud(W),), "<b>", "hi", "</b>")
        for body, part in TAGGED:
            self.comes_to((part,), body)

    def test_of_no_parts(self):
        self.comes_to(())

    def test_words_and_numbers_beside_one_another_are_one_text(self):
        self.comes_to((A, B), "a b")
        self.comes_to((A, ("number", 3), ("number", -4), B, A), "a 3 -4 b a")
        self.comes_to((("number", 0), ("number", 0)), "0 0")
        self.comes_to((W,) * 60, " ".join(["hi"] * 60))
        self.comes_to((loud(A, B, ("number", 1)),), "<b>", "a b 1", "</b>")

    def test_others_part_them(self):
        for body, part in TAGGED:
            self.comes_to((A, part, B), "a", body, "b")
            self.comes_to((A, B, part, part, ("number", 1), A), "a b", body, body, "1 a")
            self.comes_to((part, A, B), body, "a b")
            self.comes_to((A, B, part), "a b", body)
        self.comes_to((A, loud(B), A), "a", "<b>", "b", "</b>", "a")
        self.comes_to((A, B, loud(A, B, PAUSE, B), A, B), "a b", "<b>", "a b", "<br>", "b", "</b>", "a b")

    def test_loud_within_loud(self):
        self.comes_to((loud(loud(A)),), "<b>", "<b>", "a", "</b>", "</b>")
        self.comes_to((loud(A, loud(B), A), B), "<b>", "a", "<b>", "b", "</b>", "a", "</b>", "b")
        self.comes_to((loud(A), loud(B)), "<b>", "a", "</b>", "<b>", "b", "</b>")
        self.comes_to(
            (within("loud", 3, PAUSE, NAME),), "<b>", "<b>", "<b>", "<br>", "<a /hill/ann>", "</b>", "</b>", "</b>",
        )

    def test_numbers(self):
        for number in NUMBERS:
            self.comes_to((("number", number),), str(number))
        self.comes_to((("number", 10 ** 9), ("number", -10 ** 9)), "1000000000 -1000000000")

    def test_names_and_pictures(self):
        for name in ("/a", "/abcdefgh", "/a/b/c", "/abcdefgh/abcdefgh/abcdefgh", "/doora/c"):
            self.comes_to((("name", name),), f"<a {name}>")
        for rows in (("0",), ("01234567",), ("9", "8", "7", "6", "5", "4"), ("01234567",) * 6):
            self.comes_to((("picture", rows),), f"<img {'/'.join(rows)}>")

    def test_what_is_written_is_read_back(self):
        for saying in some_sayings("pages", 400):
            self.assertEqual(read(written(saying)), saying)


class Read(unittest.TestCase):
    def comes_to(self, body, *saying):
        with self.subTest(body=body):
            told = read(body)
            self.assertIs(type(told), tuple)
            self.assertEqual(told, saying)

    def refused(self, *bodies):
        for body in bodies:
            with self.subTest(body=body):
                with self.assertRaises(NoBody) as caught:
                    read(body)
                self.assertIs(type(caught.exception), NoBody)
                self.assertIsInstance(caught.exception, DoorError)

    def unwritten(self, *texts):
        """Refused alone, beside tags and within a loud."""
        for text in texts:
            self.refused(
                (text,), ("<br>", text), (text, "<br>"), ("<b>", text, "</b>"), ("<b>", "<br>", text, "</b>", "a"),
                ("a", "<br>", text, "<br>", "a"),
            )

    def test_two_texts_that_ought_to_be_one(self):
        self.refused(
            ("a", "b"), ("a", "1"), ("1", "2"), ("a b", "c"), ("a", "b c"), ("<b>", "a", "b", "</b>"),
            ("<br>", "a", "b"),
            ("a", "b", "<br>"), ("a", "<br>", "a", "b"), ("a",) * 2000, ("a", "<b>", "b", "c", "</b>"),
            ("<b>", "a", "</b>", "b", "c"),
        )

    def test_blanks(self):
        self.unwritten(
            "a  b", " a", "a ", " ", "  ", "", " a b", "a b ", "1  2", " 1", "1 ", "a   b", "a\nb", "a\n", "\na",
            "\n", " <br>",
            "<br> ", "a <br>", "<br> a", "<br><br>", "a<br>", "<br>a",
        )

    def test_tags_with_a_sign_otherwise(self):
        for tag, _ in TAGGED + [("<b>", None), ("</b>", None)]:
            for at in range(len(tag)):
                cut = tag[:at] + tag[at + 1:]
                if not MAY_BE_WRITTEN.fullmatch(cut + "\n"):
                    self.unwritten(cut)
            for sign in (" ", "\n", "<", ">", "/", "x", "~"):
                for at in range(len(tag) + 1):
                    bent = tag[:at] + sign + tag[at:]
                    if not MAY_BE_WRITTEN.fullmatch(bent + "\n") or sign == "\n":
                        self.unwritten(bent)
        self.unwritten(
            "<BR>", "<Br>", "<br", "br>", "<br/>", "<br />", "< br>", "</br>", "<B>", "<i>", "<>", "<", ">", "<a>",
            "<a >",
            "<A /hill/ann>", "<a/hill/ann>", "<a  /hill/ann>", "<a /hill/ann >", "<a /hill/ann", "a /hill/ann>", "</a>",
            "<a /hill/ann>>", "<a /hill/ann/>", "<img>", "<img >", "<img 012/345", "<img 012/345 >", "<img  012/345>",
            "<IMG 012>", "<image 012>", "<img012>", "img 012>", "<a /hill/ann/ ann>", "<img 012]", "<a /hill/ann)",
        )

    def test_tags_in_a_text_with_others(self):
        for tag, _ in TAGGED + [("<b>", None), ("</b>", None)]:
            self.refused(
                ("a " + tag,), (tag + " a",), ("a" + tag,), (tag + "a",), (tag + tag,), (tag + " " + tag,),
                ("a " + tag + " b",),
                ("<b>a</b>",), ("<b> a </b>",), ("<b>", "a</b>"), ("<b>a", "</b>"),
            )

    def test_numbers_otherwise(self):
        self.unwritten(
            "00", "01", "007", "-0", "-00", "-01", "+1", "-", "--1", "1-", "1.0", "a 01", "01 a", "a -0", "1,000",
            "1_000",
            "1000000001", "-1000000001", "9999999999", "-9999999999", "10000000000", "-10000000000", "01000000000",
            "12345678901",
        )
        for many in (12, 100, 4299, 4300, 4301, 20000):
            self.unwritten("1" * many, "-" + "1" * many, "0" * many, "a " + "9" * many)

    def test_words_otherwise(self):
        self.comes_to(("abcdefgh",), ("word", "abcdefgh"))
        self.unwritten(
            "abcdefghi", "a" * 20000, "A", "Hi", "a1", "1a", "a-b", "a.", "a/b", "/hill/ann", "ann@hill", "+123",
            "c-e-g", ";",
            "[012]", "{", "hi Hi", "hi abcdefghi",
        )
        for sign in SIGNS:
            if sign.islower():
                self.comes_to((sign,), ("word", sign))
            elif sign.isdigit():
                self.comes_to((sign,), ("number", int(sign)))
            else:
                self.unwritten(sign, "a" + sign, sign + "a", "a " + sign, sign + " a")

    def test_names_otherwise(self):
        self.unwritten(*[f"<a {name}>" for name in (
            "/abcdefghi", "/a/b/c/d", "/a/abcdefghi", "/", "//", "/a/", "//a", "/a//b", "a", "hill/ann", "/Hill/ann",
            "/a1", "/1",
            "ann@hill", "+123", "+9012", "c-e-g", "g-a-b-f", "c@doora", "/hill /ann", "/hill/ann ", "/hill/ann\n",
            "/a" * 9999,
            "someone",
        )])

    def test_pictures_otherwise(self):
        self.unwritten(*[f"<img {rows}>" for rows in (
            "0/1/2/3/4/5/6", "012345678", "012345678/012345678", "0/12", "01/2", "01/23/4", "/", "0/", "/0", "0//1",
            "a", "0a",
            "-1", "0 1", "0/ 1", "0;1", "0,1", "0\n", "[0]", "0" * 19000, "0/" * 9000 + "0",
        )])

    def test_an_empty_loud(self):
        self.refused(
            ("<b>", "</b>"), ("a", "<b>", "</b>"), ("<b>", "</b>", "a"), ("<b>", "<b>", "</b>", "</b>"),
            ("<b>", "a", "<b>", "</b>", "</b>"), ("<b>", "", "</b>"), ("<b>", "</b>") * 1000, ("<b></b>",),
        )

    def test_an_end_too_few_or_too_many(self):
        self.refused(
            ("<b>",), ("</b>",), ("<b>", "a"), ("a", "</b>"), ("<b>", "a", "</b>", "</b>"), ("<b>", "<b>", "a", "</b>"),
            ("</b>", "a", "<b>"), ("</b>", "<b>"), ("<b>", "a", "<b>"), ("</b>", "a", "</b>"), ("<br>", "<b>", "<br>"),
            ("<b>", "a", "</b>", "<b>"), ("<b>",) * 2000, ("</b>",) * 2000,
        )

    def test_four_and_five_deep(self):
        for deep in range(1, 4):
            self.comes_to(("<b>",) * deep + ("a",) + ("</b>",) * deep, within("loud", deep, A))
        for deep in (4, 5, 6, 40, 500, 999):
            self.refused(("<b>",) * deep + ("a",) + ("</b>",) * deep)
        self.comes_to(
            ("<b>", "a", "<b>", "b", "<b>", "<br>", "</b>", "a", "</b>", "</b>"), loud(A, loud(B, loud(PAUSE), A)),
        )
        self.refused(("<b>", "a", "<b>", "b", "<b>", "<b>", "<br>", "</b>", "</b>", "a", "</b>", "</b>"))

    def test_sixty_and_sixty_one_parts(self):
        self.comes_to((" ".join(["a"] * 60),), *(A,) * 60)
        self.comes_to(("<br>",) * 60, *(PAUSE,) * 60)
        self.comes_to(("<b>", " ".join(["a"] * 59), "</b>"), loud(*(A,) * 59))
        self.comes_to(("<b>", "a", "</b>") * 30, *(loud(A),) * 30)
        self.comes_to(("1 a", "<br>") * 20, *(("number", 1), A, PAUSE) * 20)
        self.refused(
            (" ".join(["a"] * 61),), ("<br>",) * 61, ("<b>", " ".join(["a"] * 60), "</b>"),
            ("<b>", "a", "</b>") * 30 + ("a",),
            ("1 a", "<br>") * 20 + ("1",), ("<a /a>",) * 61, ("<img 0>",) * 61, ("<b>", "a", "</b>") * 31,
        )

    def test_many_and_long_texts(self):
        long_text = " ".join(["a"] * 10000)
        self.refused(
            ("<br>",) * 2000, ("a", "<br>") * 1000, ("<a /a>",) * 2000, ("<img 0>",) * 2000, ("",) * 2000,
            (" ",) * 2000,
            (long_text,), (long_text, "<br>") * 1000, (" " * 20000, "<br>") * 1000,
            ("<img " + "0/" * 9990 + "0>",) * 2000,
        )

    def test_what_is_no_tuple_of_texts(self):
        self.refused(
            [], ["hi"], ["<br>"], ["<b>", "hi", "</b>"], {}, {"hi": "hi"}, {"hi"}, "", "hi", "<br>", "a", 0, 1, True,
            False,
            None, 10 ** 9, b"hi", -1, b"",
        )
        for thing in NO_TEXTS + [b"a", ["hi"], ("pause",)]:
            self.refused(
                (thing,), ("hi", thing), (thing, "hi"), ("<br>", thing), (thing, "<br>"), ("<b>", thing, "</b>"),
                ("<b>", "a", thing), (thing,) * 2000, ("a", "<br>", thing, "<br>", "b"),
            )
        self.refused((W,), (PAUSE,), (loud(W),), (W, PAUSE))

    def test_anything(self):
        self.comes_to(())
        for thing in ANYTHING:
            if thing in [(), ("a",), ("letters",)] and isinstance(thing, tuple):
                self.comes_to(thing, *[("word", word) for word in thing])
            else:
                self.refused(thing)

    def held_against(self, body):
        text = "".join(word + "\n" for word in body)
        try:
            told = read(body)
        except NoBody:
            self.assertIsNone(MAY_BE_WRITTEN.fullmatch(text), body)
        else:
            self.assertIsNotNone(MAY_BE_WRITTEN.fullmatch(text), body)
            self.assertEqual(written(told), body)

    def test_all_short_bodies_of_some_texts(self):
        texts = ["a", "1 b", "-0", "<br>", "<b>", "</b>", "<a /a>", "<img 0>", "a "]
        for many in range(6):
            for body in itertools.product(texts, repeat=many):
                self.held_against(body)

    def test_bodies_that_were_bent(self):
        chance = random.Random(3)
        texts = ["a", "1", "<br>", "<b>", "</b>", "<a /a/b>", "<img 01>", ""]
        for saying in some_sayings("pages", 200, seed=5):
            body = written(saying)
            for _ in range(6):
                at = chance.randint(0, len(body))
                self.held_against(
                    body[:at] + tuple(chance.choices(texts, k=chance.randint(0, 1))) + body[at + chance.randint(0,
                    2):],
                )
            for at, text in enumerate(body[:6]):
                near = chance.randint(0, len(text))
                bent = text[:near] + chance.choice(["", " ", *"a0-<>/"]) + text[near + chance.randint(0, 1):]
                # The pattern knows neither how great a number may be nor that rows are of one length.
                if not re.search("[0-9]{10}|img", bent):
                    self.held_against(body[:at] + (bent,) + body[at + 1:])


if __name__ == "__main__":
    unittest.main()
