"""Promises 13 and 14: the body of calls, written and read."""

import itertools
import random
import re
import unittest

from doorkinds.calls import read, written
from doorkinds.errors import DoorError, NoBody
from oddities import ANYTHING, NO_TEXTS, SIGNS
from samples import NUMBERS, PAUSE, W, quote, some_sayings, within

A, B = ("word", "a"), ("word", "b")
SAID = (
    "number minus nought one two three four five six seven eight nine over name quote unquote pause spell"
).split()
FIGURES = "nought one two three four five six seven eight nine".split()
NEARLY = [
    "numbers", "numbe", "umber", "minu", "minuss", "noughts", "nough", "zero", "on", "ones", "o", "twos", "tw", "thre",
    "fours", "fiv", "sixs", "si", "sevens", "eigh", "nines", "overs", "ove", "ver", "names", "nam", "quotes", "quot",
    "unquot", "quoteun", "pauses", "paus", "spells", "spel", "ten", "someone", "loud", "picture", "word", "said",
]


def spoken(text):
    return tuple(text.split())


def spell(word):
    return ("spell", *word, "over")


def grammar():
    """What may be spoken, with a blank behind each word, as a pattern."""
    figure = f"(?:{'|'.join(FIGURES)}) "
    first = f"(?:{'|'.join(FIGURES[1:])}) "
    plain = f"(?!(?:{'|'.join(SAID)}) )[a-z]{{1,8}} "
    spelled = "|".join("spell " + " ".join(word) + " over " for word in SAID)
    number = f"number (?:nought |(?:minus )?{first}(?:{figure}){{0,9}})over "
    name = f"name (?:{figure}){{3,9}}over "
    pattern = part = f"(?:{plain}|{spelled}|{number}|{name}|pause )"
    for _ in range(3):
        pattern = f"(?:{part}|quote (?:{pattern})+unquote )"
    return re.compile(f"(?:{pattern})*")


MAY_BE_SPOKEN = grammar()


class Written(unittest.TestCase):
    def comes_to(self, saying, body):
        with self.subTest(saying=saying):
            told = written(saying)
            self.assertIs(type(told), tuple)
            self.assertEqual(told, body)
            self.assertEqual(read(body), saying)

    def test_each_part(self):
        self.comes_to((W,), ("hi",))
        self.comes_to((("number", 42),), spoken("number four two over"))
        self.comes_to((("name", "+1209"),), spoken("name one two nought nine over"))
        self.comes_to((PAUSE,), ("pause",))
        self.comes_to((quote(W),), spoken("quote hi unquote"))

    def test_of_no_parts(self):
        self.comes_to((), ())

    def test_several(self):
        self.comes_to((A, PAUSE, ("number", 7), B), spoken("a pause number seven over b"))
        self.comes_to((W,) * 60, ("hi",) * 60)

    def test_each_said_word_is_spelled(self):
        for word in SAID:
            self.comes_to((("word", word),), spell(word))
            self.comes_to((A, ("word", word), B), ("a", *spell(word), "b"))
            self.comes_to((quote(("word", word)),), ("quote", *spell(word), "unquote"))
        self.comes_to((("word", "over"), ("word", "spell")), spoken("spell o v e r over spell s p e l l over"))

    def test_words_nearly_said(self):
        for word in NEARLY + list("abcdefghijklmnopqrstuvwxyz"):
            self.comes_to((("word", word),), (word,))

    def test_numbers(self):
        for number, body in [
            (0, "nought"), (7, "seven"), (10, "one nought"), (1002003, "one nought nought two nought nought three"),
            (-5, "minus five"), (-60, "minus six nought"), (10 ** 9, "one" + " nought" * 9),
            (-10 ** 9, "minus one" + " nought" * 9), (123456789, "one two three four five six seven eight nine"),
            (999999999, "nine " * 9), (-987654321, "minus nine eight seven six five four three two one"),
        ]:
            self.comes_to((("number", number),), spoken(f"number {body} over"))

    def test_names(self):
        self.comes_to((("name", "+000"),), spoken("name nought nought nought over"))
        self.comes_to((("name", "+123456789"),), spoken("name one two three four five six seven eight nine over"))
        self.comes_to((("name", "+9012"), ("number", 9012)), spoken(
            "name nine nought one two over number nine nought one two over",
        ))

    def test_quotes_within_one_another(self):
        self.comes_to((quote(A, quote(B)), A), spoken("quote a quote b unquote unquote a"))
        self.comes_to((quote(quote(quote(A), B), PAUSE),), spoken(
            "quote quote quote a unquote b unquote pause unquote",
        ))
        self.comes_to((quote(A), quote(("number", -1))), spoken("quote a unquote quote number minus one over unquote"))

    def test_what_is_written_is_read_back(self):
        for saying in some_sayings("calls", 400):
            self.assertEqual(read(written(saying)), saying)
        for number in NUMBERS:
            self.assertEqual(read(written((("number", number),))), (("number", number),))


class Read(unittest.TestCase):
    def refused(self, *bodies):
        for body in bodies:
            with self.subTest(body=body):
                with self.assertRaises(NoBody) as caught:
                    read(body)
                self.assertIs(type(caught.exception), NoBody)
                self.assertIsInstance(caught.exception, DoorError)

    def unspoken(self, *texts):
        """Refused alone, beside others and within a quote."""
        for text in texts:
            self.refused(*[spoken(body) for body in (
                text, f"hi {text}", f"{text} hi", f"quote {text} unquote", f"pause quote hi {text} unquote pause",
            )])

    def test_numbers_without_figures(self):
        self.unspoken("number over", "number minus over", "number a over", "number number over", "number pause over")

    def test_noughts_ahead(self):
        self.unspoken(
            "number nought one over", "number nought nought over", "number minus nought one over",
            "number nought nought nought five over", "number" + " nought" * 10 + " over", "number nought minus over",
        )

    def test_minus_and_nought(self):
        self.unspoken("number minus nought over", "number minus nought nought over")
        self.unspoken(
            "number minus minus one over", "number one minus over", "number one minus one over", "minus", "minus one",
            "number minus minus over", "minus number one over",
        )

    def test_numbers_too_great(self):
        self.unspoken(
            "number one" + " nought" * 8 + " one over",
            "number minus one" + " nought" * 8 + " one over", "number nine" + " nine" * 9 + " over",
            "number one" + " nought" * 10 + " over", "number minus one" + " nought" * 10 + " over",
        )
        for many in (11, 100, 1998):
            self.refused(("number",) + ("one",) * many + ("over",), ("number",) + ("nought",) * many + ("over",))
        self.refused(("number",) + ("one",) * 4500 + ("over",))

    def test_numbers_without_over(self):
        self.refused(*[spoken(body) for body in (
            "number", "number one", "number minus", "number minus one", "number one two", "hi number one",
            "quote number one unquote", "number one number two over", "number one hi", "number one pause",
        )])
        self.refused(("number", *("one",) * 1999))

    def test_figures_and_over_alone(self):
        self.unspoken(
            *FIGURES, "over", "one two", "over over", "number one over over", "pause over", "spell o n e over over",
        )

    def test_names_of_two_and_ten_figures(self):
        self.unspoken("name over", *["name" + " one" * many + " over" for many in (1, 2, 10, 11, 12, 100)])
        for many in range(3, 10):
            self.assertEqual(read(spoken("name" + " one" * many + " over")), (("name", "+" + "1" * many),))

    def test_names_otherwise(self):
        self.unspoken(
            "name minus one two three over", "name one two three four minus over", "name a b c over",
            "name one two a over",
            "name one two three pause over", "name spell over", "name name one two three over", "name ann over",
        )
        self.refused(*[spoken(body) for body in (
            "name", "name one two three", "hi name one two three", "quote name one two three unquote",
            "name one two three hi",
        )])

    def test_a_word_spelled_that_need_not_be(self):
        for word in NEARLY + ["a", "hi", "abcdefgh"]:
            self.refused(spell(word), ("hi", *spell(word)), ("quote", *spell(word), "unquote"))

    def test_spelled_otherwise(self):
        self.unspoken("spell over", "spell", "spell spell over")
        self.refused(
            ("spell", "number", "over"), ("spell", "nu", "mber", "over"), ("spell", "on", "e", "over"),
            ("spell", "o", "ne", "over"), ("spell", "one", "over"), ("spell", "o", "n", "", "e", "over"),
            ("spell", "", "over"), ("spell", "", "o", "n", "e", "over"), ("spell", "over", "over"),
            ("spell", "o", "n", "e", "s", "over"), ("spell", "o", "n", "over"), ("spell", "O", "n", "e", "over"),
            ("spell", "o", "n", "e"), ("spell", "o", "v", "e", "r"), ("spell", "o n", "e", "over"),
            ("spell", "o", " ", "n", "e", "over"),
            ("spell", "quote", "over"), ("spell", "a", "b", "c", "d", "e", "f", "g", "h", "i", "over"),
            ("spell", *"a" * 1998, "over"), ("spell", *"o" * 1999), ("spell", *("a" * 20000,) * 100, "over"),
        )

    def test_said_words_unspelled(self):
        for word in SAID:
            if word != "pause":
                self.refused((word,), ("hi", word), (word, "hi"))
        self.assertEqual(read(("pause",)), (PAUSE,))

    def test_empty_quotes(self):
        self.unspoken("quote unquote", "quote quote unquote unquote", "quote hi quote unquote unquote")

    def test_an_end_too_few_or_too_many(self):
        self.refused(*[spoken(body) for body in (
            "quote", "unquote", "quote hi", "hi unquote", "quote hi unquote unquote", "quote quote hi unquote",
            "unquote hi quote", "unquote quote", "quote hi quote", "quote hi unquote quote", "hi quote hi pause",
            "number one unquote over", "number one quote over", "quote number one over",
        )])

    def test_four_and_five_deep(self):
        for deep in range(1, 4):
            self.assertEqual(read(spoken("quote " * deep + "hi" + " unquote" * deep)), (within("quote", deep, W),))
            self.assertEqual(
                read(spoken("a " + "quote b " * deep + "hi" + " unquote" * deep + " pause"))[2], PAUSE,
            )
        for deep in (4, 5, 6, 40, 500, 999):
            self.refused(("quote",) * deep + ("hi",) + ("unquote",) * deep)
        self.refused(("quote",) * 2000, ("unquote",) * 2000, ("quote", "unquote") * 1000)

    def test_sixty_and_sixty_one_parts(self):
        self.assertEqual(read(("hi",) * 60), (W,) * 60)
        self.assertEqual(read(("quote",) + ("hi",) * 59 + ("unquote",)), (quote(*(W,) * 59),))
        self.assertEqual(read(("quote", "hi", "unquote") * 30), (quote(W),) * 30)
        self.assertEqual(read(spoken("number one over") * 60), (("number", 1),) * 60)
        self.assertEqual(read(spell("unquote") * 60), (("word", "unquote"),) * 60)
        self.refused(
            ("hi",) * 61, ("quote",) + ("hi",) * 60 + ("unquote",), ("quote", "hi", "unquote") * 30 + ("hi",),
            ("pause",) * 61,
            spoken("number one over") * 61, spell("unquote") * 61, spoken("name one two three over") * 61,
        )

    def test_two_thousand_spoken_words(self):
        self.refused(
            ("hi",) * 2000, ("pause",) * 2000, ("over",) * 2000, ("number", "one", "over") * 666, ("a" * 20000,) * 2000,
            ("spell",) * 2000, ("number",) * 2000, ("name",) * 2000, ("quote", "hi", "unquote") * 666,
        )

    def test_texts_of_other_signs(self):
        for sign in SIGNS:
            if sign.islower():
                self.assertEqual(read((sign,)), (("word", sign),))
            else:
                self.refused((sign,), ("a" + sign,), (sign + "a",), ("a", sign), (sign, "a"))
        self.refused(
            ("",), ("hi", ""), ("", "hi"), ("Hi",), ("a b",), ("pause ",), (" pause",), ("hi\n",), ("Pause",),
            ("quote ", "hi", "unquote"),
            ("number", "1", "over"), ("number", "12", "over"), ("1",), ("12",), ("number", "", "over"),
            ("number", "one two", "over"), ("name", "123", "over"), ("name", "+", "1", "2", "3", "over"), ("+123",),
            ("number", "-", "one", "over"), ("number", "one", "over "), ("name", "one", "two", "three", "", "over"),
            ("abcdefghi",), ("a" * 20000,), ("ann@hill",), ("<",), ("someone else",),
        )
        self.assertEqual(read(("abcdefgh", "someone")), (("word", "abcdefgh"), ("word", "someone")))

    def test_what_is_no_tuple_of_texts(self):
        self.refused(
            [], ["hi"], ["pause"], ["quote", "hi", "unquote"], {}, {"hi": "hi"}, {"hi"}, "", "hi", "pause", "a", 0, 1,
            True,
            False, None, 10 ** 9, b"hi", -1,
        )
        for thing in NO_TEXTS + [b"a", ["hi"], ("pause",)]:
            self.refused(
                (thing,), ("hi", thing), (thing, "hi"), ("number", thing, "over"), ("number", "one", thing, "over"),
                ("name", "one", "two", "three", thing, "over"), ("spell", thing, "over"),
                ("spell", "o", "n", thing, "over"),
                ("quote", thing, "unquote"), ("quote", "hi", thing), ("number", "one", thing), (thing,) * 2000,
            )
        self.refused((W,), (PAUSE,), (quote(W),), (W, PAUSE))

    def test_anything(self):
        self.assertEqual(read(()), ())
        for thing in ANYTHING:
            if thing in [(), ("a",), ("letters",)] and isinstance(thing, tuple):
                self.assertEqual(read(thing), tuple(("word", word) for word in thing))
            elif thing == ("word", "a") and isinstance(thing, tuple):
                self.assertEqual(read(thing), (("word", "word"), A))
            else:
                self.refused(thing)

    def held_against(self, body):
        text = "".join(word + " " for word in body)
        try:
            told = read(body)
        except NoBody:
            self.assertIsNone(MAY_BE_SPOKEN.fullmatch(text), body)
        else:
            self.assertIsNotNone(MAY_BE_SPOKEN.fullmatch(text), body)
            self.assertEqual(written(told), body)

    def test_all_short_bodies_of_some_words(self):
        words = "a number minus nought one over name quote unquote pause spell o".split()
        for many in range(5):
            for body in itertools.product(words, repeat=many):
                self.held_against(body)

    def test_bodies_that_were_bent(self):
        chance = random.Random(2)
        words = [*SAID, "a", "hi", "o", "n"]
        for saying in some_sayings("calls", 200, seed=4):
            body = written(saying)
            for _ in range(12):
                at = chance.randint(0, len(body))
                put = tuple(chance.choices(words, k=chance.randint(0, 1)))
                bent = body[:at] + put + body[at + chance.randint(0, 2):]
                # The pattern doesn't know how great a number may be.
                if not re.search("( [a-z]+){10} over", " ".join(bent)):
                    self.held_against(bent)


if __name__ == "__main__":
    unittest.main()
