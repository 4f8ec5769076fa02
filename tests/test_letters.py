"""Promises 11 and 12: the body of letters, written and read."""

import itertools
import random
import re
import unittest

from doorkinds.errors import DoorError, NoBody
from doorkinds.letters import read, written
from doorkinds.sayings import is_saying
from oddities import ANYTHING, NO_TEXTS, SIGNS
from samples import NUMBERS, PAUSE, W, loud, nested, quote, some_sayings, within

A, B = ("word", "a"), ("word", "b")
NAME = ("name", "ann@hill")
PICTURE = ("picture", ("012", "345"))
PLAIN = [("hi", W), ("-12", ("number", -12)), ("0", ("number", 0)), ("ann@hill", NAME)]
SIGNED = [
    (";", PAUSE), ("[012/345]", PICTURE), ("[7]", ("picture", ("7",))), ("< hi >", loud(W)), ("{ ; }", quote(PAUSE)),
]


def read_otherwise(text):
    """What the text writes, or None: another way to read, to hold the first one against."""
    rows = []
    ends = []
    level = []
    for mark in re.findall(r"\[[^\]\[]*\]|[;<>{}]|[^ \n;<>{}\[\]]+|[\[\]]", text):
        if mark in "<{":
            rows.append(level)
            ends.append(">" if mark == "<" else "}")
            level = []
        elif mark in (">", "}"):
            if not ends or ends.pop() != mark:
                return None
            level = rows.pop() + [("loud" if mark == ">" else "quote", tuple(level))]
        elif mark == ";":
            level.append(PAUSE)
        elif re.fullmatch(r"\[[^]]+\]", mark):
            level.append(("picture", tuple(mark[1:-1].split("/"))))
        elif re.fullmatch(r"0|-?[1-9][0-9]{0,9}", mark):
            level.append(("number", int(mark)))
        elif re.fullmatch("[a-z]+@[a-z]+", mark):
            level.append(("name", mark))
        else:
            level.append(("word", mark))
    return None if ends or not is_saying("letters", tuple(level)) else tuple(level)


class Written(unittest.TestCase):
    def comes_to(self, saying, body):
        with self.subTest(saying=saying):
            told = written(saying)
            self.assertIs(type(told), str)
            self.assertEqual(told, body)
            self.assertEqual(read(body), saying)

    def test_each_part(self):
        for body, part in PLAIN + SIGNED:
            self.comes_to((part,), body)

    def test_of_no_parts(self):
        self.comes_to((), "")

    def test_a_blank_between(self):
        self.comes_to((A, B), "a b")
        self.comes_to((A, PAUSE, PAUSE, B), "a ; ; b")
        self.comes_to((PAUSE, NAME, ("number", 3), PICTURE), "; ann@hill 3 [012/345]")
        self.comes_to((W,) * 60, " ".join(["hi"] * 60))

    def test_groups_within_one_another(self):
        self.comes_to((loud(A, B),), "< a b >")
        self.comes_to((quote(A, PAUSE, B), A), "{ a ; b } a")
        self.comes_to((loud(quote(A), loud(B)), quote(loud(A))), "< { a } < b > > { < a > }")
        self.comes_to((nested(3),), "{ < { hi } > }")
        self.comes_to((A, loud(NAME, quote(PICTURE, loud(("number", -1)))), B), "a < ann@hill { [012/345] < -1 > } > b")

    def test_numbers(self):
        for number in NUMBERS:
            self.comes_to((("number", number),), str(number))
        self.comes_to((("number", 0),), "0")
        self.comes_to((("number", 10 ** 9),), "1000000000")
        self.comes_to((("number", -10 ** 9),), "-1000000000")

    def test_pictures(self):
        self.comes_to((("picture", ("0",)),), "[0]")
        self.comes_to((("picture", ("01234567",)),), "[01234567]")
        self.comes_to((("picture", ("9", "8", "7", "6", "5", "4")),), "[9/8/7/6/5/4]")

    def test_words_and_names(self):
        for word in ("a", "abcdefgh", "someone", "over", "word", "loud"):
            self.comes_to((("word", word),), word)
        for name in ("a@b", "abcdefgh@abcdefgh", "c@doora"):
            self.comes_to((("name", name),), name)

    def test_what_is_written_is_read_back(self):
        for saying in some_sayings("letters", 400):
            self.assertEqual(read(written(saying)), saying)


class Read(unittest.TestCase):
    def comes_to(self, body, *saying):
        with self.subTest(body=body):
            told = read(body)
            self.assertIs(type(told), tuple)
            self.assertEqual(told, saying)

    def refused(self, *bodies):
        for body in bodies:
            with self.subTest(body=body):
                with self.assertRaises(NoBody) as caught:
                    read(body)
                self.assertIs(type(caught.exception), NoBody)
                self.assertIsInstance(caught.exception, DoorError)

    def test_blanks_ahead_and_behind(self):
        for blanks in (" ", "\n", "  ", "\n\n", " \n ", " " * 50, "\n" * 50):
            for body, part in PLAIN + SIGNED:
                self.comes_to(blanks + body, part)
                self.comes_to(body + blanks, part)
                self.comes_to(blanks + body + blanks, part)

    def test_blanks_between(self):
        for blanks in (" ", "\n", "  ", "\n\n", " \n ", "\n \n"):
            for body, part in PLAIN + SIGNED:
                for other, beside in PLAIN + SIGNED:
                    self.comes_to(body + blanks + other, part, beside)

    def test_none_is_needed_beside_the_signs(self):
        for body, part in PLAIN + SIGNED:
            for other, beside in SIGNED:
                self.comes_to(body + other, part, beside)
                self.comes_to(other + body, beside, part)
                self.comes_to(body + other + body, part, beside, part)
        self.comes_to("<a>", loud(A))
        self.comes_to("{a}", quote(A))
        self.comes_to("<<a>{b;}>a", loud(loud(A), quote(B, PAUSE)), A)
        self.comes_to(";;;", PAUSE, PAUSE, PAUSE)
        self.comes_to("a[7]b[7]-1", A, ("picture", ("7",)), B, ("picture", ("7",)), ("number", -1))

    def test_blanks_round_each_sign(self):
        for blanks in (" ", "\n", "   \n"):
            for sign in ("<", ">", "{", "}", ";"):
                body = "<a;{b}>".replace(sign, blanks + sign + blanks)
                self.comes_to(body, loud(A, PAUSE, quote(B)))
        self.comes_to("\n< \n a\n>\n", loud(A))

    def test_one_is_needed_between_words_names_and_numbers(self):
        self.refused(
            "a1", "1a", "a0", "0a", "a-1", "-1a", "1-1", "-1-1", "5-3", "0-3", "00", "0-0", "--1", "a@b1", "1a@b",
            "a@b-1",
        )
        self.refused("-1a@b", "a@ba@b", "ann@hillann@hill", "a@b@c", "hi-12", "-12hi", "ann@hill0", "0ann@hill")
        # Two words without a blank are one.
        self.comes_to("ab", ("word", "ab"))
        self.comes_to("12", ("number", 12))
        self.comes_to("-120", ("number", -120))
        self.comes_to("ab@ab", ("name", "ab@ab"))

    def test_none_within(self):
        for blank in (" ", "\n"):
            self.comes_to(f"a{blank}b", A, B)
            self.comes_to(f"1{blank}2", ("number", 1), ("number", 2))
            self.refused(*[body.replace("_", blank) for body in (
                "-_1", "ann_@hill", "ann@_hill", "ann_@_hill", "@_hill", "[_7]", "[7_]", "[_7_]", "[0_1]", "[01_/23]",
                "[01/_23]", "[01_/_23]", "[01/23_]", "[_01/23]", "[_]", "[__]", "-_0",
            )])
        self.comes_to("an n@hill", ("word", "an"), ("name", "n@hill"))
        self.comes_to("ann@hi ll", ("name", "ann@hi"), ("word", "ll"))

    def test_noughts_ahead_and_nought(self):
        self.comes_to("0", ("number", 0))
        self.comes_to("100", ("number", 100))
        self.refused(
            "00", "01", "007", "-0", "-00", "-01", "0" * 10, "0000000001", "-0000000001", "-", "--", "+0", "+1", "0-",
            "1-",
        )

    def test_ten_and_eleven_figures(self):
        self.comes_to("1000000000", ("number", 10 ** 9))
        self.comes_to("-1000000000", ("number", -10 ** 9))
        self.comes_to("999999999", ("number", 999999999))
        self.refused("1000000001", "-1000000001", "9999999999", "-9999999999", "2000000000")
        self.refused("10000000000", "-10000000000", "01000000000", "00000000001", "12345678901")

    def test_a_row_of_very_many_figures(self):
        for many in (12, 100, 4299, 4300, 4301, 5000, 19999, 20000):
            self.refused(
                "1" * many, "0" * many, "-" + "9" * many, "a " + "1" * many, "1" * many + ";", "[" + "1" * many + "]",
            )

    def test_words_and_names_too_long(self):
        self.comes_to("abcdefgh", ("word", "abcdefgh"))
        self.refused("abcdefghi", "a" * 9, "a" * 20000, "hi " + "a" * 9, "<" + "a" * 9 + ">")
        self.comes_to("abcdefgh@abcdefgh", ("name", "abcdefgh@abcdefgh"))
        self.refused(
            "abcdefghi@a", "a@abcdefghi", "@", "a@", "@a", "a@@a", "a@a@a", "a1@a", "a@a1", "1@2", "a@-", "@@",
            "a@" + "b" * 19998, "ann@Hill", "Ann@hill", "+123", "/hill/ann", "c-e-g", "+9012", "g-a-b-f", "a/b",
        )

    def test_pictures(self):
        self.comes_to("[0/1/2/3/4/5]", ("picture", ("0", "1", "2", "3", "4", "5")))
        self.comes_to("[01234567/01234567]", ("picture", ("01234567",) * 2))
        self.refused(
            "[0/1/2/3/4/5/6]", "[012345678]", "[012345678/012345678]", "[0/12]", "[01/2]", "[01/23/4]", "[]", "[/]",
            "[0/]", "[/0]", "[0//1]", "[//]", "[a]", "[0a]", "[-1]", "[0.1]", "[0,1]", "[0;1]", "[<0>]", "[{0}]",
            "[0@1]",
            "[", "]", "][", "[[0]]", "[0", "0]", "[0]]", "[[0]", "[0[1]]", "[]0]", "[0[]", "[0/[1]]", "0/1", "[0/1",
            "/",
            "< [0 >]", "[" * 20000, "]" * 20000, "[" + "0/" * 9999 + "]",
        )

    def test_empty_groups(self):
        self.refused(
            "<>", "< >", "{}", "{ }", "<\n>", "a<>", "<>a", "<{}>", "{<>}", "<a{}>", "<a<>b>", "{ a { } }", "<><>",
        )

    def test_an_end_too_few_too_many_or_of_the_wrong_sign(self):
        self.refused(
            "<", ">", "{", "}", "<a", "a>", "{a", "a}", "<a>>", "<<a>", "{a}}", "{{a}", "<a}", "{a>", "<{a>}",
            "{<a}>", "><",
            "}{", ">a<", "a><b", "<a{b>", "<a}b>", "<a>}", "{a}>", "<a> b >", "a < b", "< a > { b",
        )

    def test_four_and_five_deep(self):
        for begin, end, first in (("<", ">", "loud"), ("{", "}", "quote")):
            for deep in range(1, 4):
                self.comes_to(begin * deep + "a" + end * deep, within(first, deep, A))
            for deep in range(4, 60):
                self.refused(begin * deep + "a" + end * deep)
        self.comes_to("<{<a>}>", loud(quote(loud(A))))
        self.refused("<{<{a}>}>", "<a<b<a<b>>>>", "<a{b<a{b}>}>")
        self.comes_to("a<b{a<b>}>;", A, loud(B, quote(A, loud(B))), PAUSE)

    def test_very_deep(self):
        for many in (100, 1000, 9999):
            self.refused(
                "<" * many + "a" + ">" * many, "{" * many + "a" + "}" * many, "<" * many, ">" * many, "{<" * many,
            )

    def test_sixty_and_sixty_one_parts(self):
        self.comes_to("a " * 59, *(A,) * 59)
        self.comes_to("a " * 60, *(A,) * 60)
        self.comes_to(";" * 60, *(PAUSE,) * 60)
        self.comes_to("<" + "a " * 59 + ">", loud(*(A,) * 59))
        self.comes_to("{a}" * 30, *(quote(A),) * 30)
        self.refused("a " * 61, ";" * 61, "<" + "a " * 60 + ">", "{a}" * 30 + "a", "{a}" * 31, "[7]" * 61, "a@b " * 61)

    def test_long_texts(self):
        self.comes_to(" " * 20000)
        self.comes_to("\n" * 20000)
        self.comes_to(" " * 10000 + "a" + "\n" * 9999, A)
        self.comes_to("a" + " \n" * 9999 + "b", A, B)
        self.comes_to(("a" + " " * 332) * 60, *(A,) * 60)
        self.refused(
            "a " * 10000, ";" * 20000, "<a>" * 6666, "[7]" * 6666, "~" * 20000, "-" * 20000, "@" * 20000,
            "a@b " * 5000,
        )

    def test_the_empty_text_and_texts_of_blanks(self):
        for body in ("", " ", "\n", "  ", " \n", "\n ", "\n\n\n", "     "):
            self.comes_to(body)

    def test_other_signs(self):
        known = set("abcdefghijklmnopqrstuvwxyz0123456789 \n;")
        for sign in SIGNS:
            if sign in known:
                self.assertEqual(len(read(sign)), 0 if sign in " \n" else 1)
            else:
                self.refused(sign, sign + sign, "a " + sign, sign + " a")
            if sign not in " \n;abcdefghijklmnopqrstuvwxyz":
                self.refused("a" + sign, sign + "a", "a" + sign + "1")
        self.refused(
            "Hi", "hI", "a.", "a,", "a!", "a_b", "a:b", "a'", '"a"', "a|b", "\\n", "(a)", "*", "$1", "1.0", "1e3",
            "#", "&",
        )

    def test_what_is_no_text(self):
        self.refused(*NO_TEXTS)
        self.refused(b"", b"a", ["a"], ("a",), {"a": 1}, (("word", "a"),), [("word", "a")])

    def test_anything(self):
        for thing in ANYTHING:
            if isinstance(thing, str) and read_otherwise(thing) is not None:
                self.assertEqual(read(thing), read_otherwise(thing))
            else:
                self.refused(thing)

    def held_against(self, body):
        try:
            told = read(body)
        except NoBody:
            told = None
        self.assertEqual(told, read_otherwise(body), body)

    def test_all_short_texts_of_some_signs(self):
        for many in range(5):
            for signs in itertools.product("a10-; <>[]@", repeat=many):
                self.held_against("".join(signs))

    def test_bodies_that_were_bent(self):
        chance = random.Random(1)
        for saying in some_sayings("letters", 300, seed=3):
            body = written(saying)
            for _ in range(12):
                at = chance.randint(0, len(body))
                cut = chance.choice([0, 0, 1, 1, 2])
                bent = body[:at] + chance.choice(["", " ", "\n", *"a0-9;<>{}[]@/Z~"]) + body[at + cut:]
                self.held_against(bent)


if __name__ == "__main__":
    unittest.main()
