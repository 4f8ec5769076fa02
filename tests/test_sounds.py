"""Promises 17 and 18: the body of sounds, written and read."""

import itertools
import random
import re
import unittest

from doorkinds.errors import DoorError, NoBody
from doorkinds.sounds import read, written
from oddities import ANYTHING
from samples import NUMBERS, PAUSE, W, loud, some_sayings, within

A, B = ("word", "a"), ("word", "b")
# The notes of the letters and of the figures, the tones written out by hand.
LETTERS = {
    "a": "00", "b": "01", "c": "02", "d": "03", "e": "04", "f": "05", "g": "10", "h": "11", "i": "12", "j": "13",
    "k": "14",
    "l": "15", "m": "20", "n": "21", "o": "22", "p": "23", "q": "24", "r": "25", "s": "30", "t": "31", "u": "32",
    "v": "33",
    "w": "34", "x": "35", "y": "40", "z": "41",
}
FIGURES = {
    "0": "00", "1": "01", "2": "02", "3": "03", "4": "04", "5": "05", "6": "10", "7": "11", "8": "12", "9": "13",
    "-": "55",
}
END, NUMBER, LOUD, LOUD_END = (6, 1), (7, 1), (7, 2), (6, 2)


def notes(tones):
    """Notes of length 1 of these tones."""
    return tuple((int(tone), 1) for tone in tones)


def word(text):
    return notes("".join(LETTERS[letter] for letter in text)) + (END,)


def number(text):
    return (NUMBER,) + notes("".join(FIGURES[figure] for figure in text)) + (END,)


def grammar():
    """What may be sounded, each note as its tone, its length and a blank, as a pattern."""
    said_word = "(?:(?:[0-3]1 [0-5]1 |41 [01]1 ){1,8}61 )"
    figure = "(?:01 [0-5]1 |11 [0-3]1 )"
    first = "(?:01 [1-5]1 |11 [0-3]1 )"
    said_number = f"(?:71 (?:01 01 |(?:51 51 )?{first}{figure}{{0,9}})61 )"
    pattern = part = f"(?:{said_word}|{said_number}|61 )"
    for _ in range(3):
        pattern = f"(?:{part}|72 (?:{pattern})+62 )"
    return re.compile(f"(?:{pattern})*")


MAY_BE_SOUNDED = grammar()


class Written(unittest.TestCase):
    def comes_to(self, saying, body):
        with self.subTest(saying=saying):
            told = written(saying)
            self.assertIs(type(told), tuple)
            self.assertEqual(told, body)
            for note in told:
                self.assertIs(type(note), tuple)
                self.assertEqual([type(worth) for worth in note], [int, int])
            self.assertEqual(read(body), saying)

    def test_each_letter(self):
        self.comes_to((A,), ((0, 1), (0, 1), (6, 1)))
        self.comes_to((("word", "z"),), ((4, 1), (1, 1), (6, 1)))
        self.comes_to((("word", "hi"),), ((1, 1), (1, 1), (1, 1), (2, 1), (6, 1)))
        for letter in LETTERS:
            self.comes_to((("word", letter),), word(letter))
            self.comes_to((("word", "a" + letter + "z"),), word("a" + letter + "z"))

    def test_words_of_one_and_eight_letters(self):
        self.comes_to((("word", "abcdefgh"), ("word", "stuvwxyz"), B), word("abcdefgh") + word("stuvwxyz") + word("b"))
        self.comes_to((("word", "zzzzzzzz"),), notes("41" * 8) + (END,))
        self.comes_to((("word", "someone"),), word("someone"))

    def test_numbers(self):
        self.comes_to((("number", 0),), ((7, 1), (0, 1), (0, 1), (6, 1)))
        self.comes_to((("number", 7),), ((7, 1), (1, 1), (1, 1), (6, 1)))
        self.comes_to((("number", -9),), ((7, 1), (5, 1), (5, 1), (1, 1), (3, 1), (6, 1)))
        self.comes_to((("number", 10 ** 9),), ((7, 1), (0, 1), (1, 1)) + ((0, 1),) * 18 + ((6, 1),))
        self.comes_to((("number", -10 ** 9),), ((7, 1), (5, 1), (5, 1), (0, 1), (1, 1)) + ((0, 1),) * 18 + ((6, 1),))
        for worth in NUMBERS + list(range(-12, 13)):
            self.comes_to((("number", worth),), number(str(worth)))

    def test_a_pause(self):
        self.comes_to((PAUSE,), (END,))
        self.comes_to((PAUSE, PAUSE), (END, END))
        self.comes_to((A, PAUSE, B), word("a") + (END,) + word("b"))
        self.comes_to((PAUSE, ("number", 1), PAUSE), (END,) + number("1") + (END,))

    def test_louds(self):
        self.comes_to((loud(A),), (LOUD,) + word("a") + (LOUD_END,))
        self.comes_to((loud(PAUSE),), (LOUD, END, LOUD_END))
        self.comes_to((loud(loud(A), B), PAUSE), (LOUD, LOUD) + word("a") + (LOUD_END,) + word("b") + (LOUD_END, END))
        self.comes_to(
            (loud(("number", -1)), loud(A)), (LOUD,) + number("-1") + (LOUD_END, LOUD) + word("a") + (LOUD_END,),
        )
        self.comes_to((within("loud", 3, A),), (LOUD,) * 3 + word("a") + (LOUD_END,) * 3)

    def test_of_no_parts(self):
        self.comes_to((), ())

    def test_sixty_parts(self):
        self.comes_to((W,) * 60, word("hi") * 60)

    def test_what_is_written_is_read_back(self):
        for saying in some_sayings("sounds", 400):
            self.assertEqual(read(written(saying)), saying)


class Read(unittest.TestCase):
    def comes_to(self, body, *saying):
        with self.subTest(body=body):
            told = read(body)
            self.assertIs(type(told), tuple)
            self.assertEqual(told, saying)

    def refused(self, *bodies):
        for body in bodies:
            with self.subTest(body=body):
                with self.assertRaises(NoBody) as caught:
                    read(body)
                self.assertIs(type(caught.exception), NoBody)
                self.assertIsInstance(caught.exception, DoorError)

    def unsounded(self, *bodies):
        """Refused alone, beside others and within a loud."""
        for body in bodies:
            self.refused(
                body, word("a") + body, body + word("a"), (END,) + body + (END,), (LOUD,) + body + (LOUD_END,),
                (LOUD,) + number("1") + body + (LOUD_END,) + word("b"),
            )

    def test_other_tones(self):
        for tone in range(10):
            for other in range(10):
                body = ((tone, 1), (other, 1), END)
                if f"{tone}{other}" in LETTERS.values():
                    self.assertEqual(len(read(body)), 1)
                elif (tone, other) == (6, 6):
                    self.comes_to(body, PAUSE, PAUSE, PAUSE)
                else:
                    self.unsounded(body)
        self.unsounded(
            ((0, 1), (6, 1)), ((0, 1), (7, 1), END), ((5, 1), (0, 1), END), ((8, 1), (0, 1), END),
            ((9, 1), (9, 1), END),
            ((0, 1), (9, 1), END), ((0, 1), (0, 1), (7, 1), (0, 1), END), ((0, 1), (8, 1), END), ((1, 1), (-6, 1), END),
            ((-1, 1), (6, 1), END), ((-1, 1), (0, 1), END), ((10, 1), (0, 1), END), ((10 ** 9, 1), (0, 1), END),
            ((0, 1), (10, 1), END),
        )

    def test_other_lengths(self):
        for length in (0, 2, 3, 9, 10, -1, 10 ** 9):
            self.unsounded(
                ((0, length), (0, 1), END), ((0, 1), (0, length), END), (NUMBER, (0, length), (1, 1), END),
                (NUMBER, (0, 1), (1, length), END), ((0, 1), (0, 1), (0, 1), (0, length), END),
                (NUMBER, (5, length), (5, 1), (0, 1), (1, 1), END),
                (NUMBER, (5, 1), (5, length), (0, 1), (1, 1), END),
            )
            self.refused(((0, length),), ((5, length),), ((8, length),), (word("a")[:2]) + ((6, length),))
        for length in (0, 3, 4, 9):
            self.unsounded(
                ((6, length),), ((7, length),), ((7, length), (0, 1), (1, 1), END), word("a")[:2] + ((6, length),),
            )
            self.refused((LOUD,) + word("a") + ((6, length),), ((7, length),) + word("a") + (LOUD_END,))

    def test_a_letter_beyond_z(self):
        for tones in ("42", "43", "44", "45", "50", "51", "55", "46", "49", "04" + "42", "42" + "00", "99"):
            self.unsounded(notes(tones) + (END,))
        self.comes_to(notes("41") + (END,), ("word", "z"))

    def test_words_of_no_letter_and_of_nine(self):
        self.comes_to((END,), PAUSE)
        self.comes_to(notes("00" * 8) + (END,), ("word", "aaaaaaaa"))
        self.unsounded(notes("00" * 9) + (END,), notes("41" * 9) + (END,), notes("00" * 10) + (END,))
        self.refused(notes("00" * 999) + (END,), notes("00" * 1000), notes("0" * 1999))

    def test_half_a_sign(self):
        self.unsounded(
            notes("0") + (END,), notes("000") + (END,), notes("0" * 15) + (END,), (NUMBER,) + notes("0") + (END,),
            (NUMBER,) + notes("011") + (END,), (NUMBER,) + notes("5") + (END,), (NUMBER,) + notes("555") + (END,),
            (NUMBER,) + notes("5501" + "0") + (END,),
        )

    def test_numbers_otherwise(self):
        self.unsounded(
            number(""), number("-"), number("00"), number("01"), number("007"), number("-0"), number("-00"),
            number("-01"),
            number("--1"), number("1-"), number("1-1"), number("1000000001"), number("-1000000001"),
            number("9999999999"),
            number("10000000000"), number("-10000000000"), number("00000000001"), number("0" * 10),
        )
        for tones in ("14", "15", "20", "41", "50", "54", "0114", "17", "08", "99", "77"):
            self.unsounded((NUMBER,) + notes(tones) + (END,))
        self.unsounded((NUMBER, NUMBER) + notes("01") + (END,), (NUMBER, LOUD) + notes("01") + (END,))
        for many in (11, 12, 100, 998):
            self.refused(number("1" * many), number("0" * many), number("-" + "1" * many))
        self.refused(number("1" * 4400), number("-" + "1" * 4301))

    def test_without_the_end(self):
        self.refused(
            notes("00"), notes("0"), word("hi")[:-1], word("a") + word("hi")[:-1], number("1")[:-1],
            number("-1")[:-1], (NUMBER,),
            (NUMBER,) * 2, word("a") + (NUMBER,), (LOUD,) + notes("00") + (LOUD_END,),
            (LOUD, NUMBER) + notes("01") + (LOUD_END,),
            (LOUD,) + word("a") + (LOUD_END,) + notes("00"), number("1")[:-1] + number("2"),
            notes("00") + (LOUD,) + word("a") + (LOUD_END,),
            notes("00") + (LOUD_END, END), (LOUD,) + notes("00") + (LOUD_END, END),
        )

    def test_empty_louds(self):
        self.refused(
            (LOUD, LOUD_END), word("a") + (LOUD, LOUD_END), (LOUD, LOUD_END) + word("a"),
            (LOUD, LOUD, LOUD_END, LOUD_END),
            (LOUD,) + word("a") + (LOUD, LOUD_END, LOUD_END), (LOUD, LOUD_END) * 1000,
        )

    def test_four_and_five_deep(self):
        for deep in range(1, 4):
            self.comes_to((LOUD,) * deep + word("a") + (LOUD_END,) * deep, within("loud", deep, A))
            self.comes_to((LOUD,) * deep + (END,) + (LOUD_END,) * deep, within("loud", deep, PAUSE))
        for deep in (4, 5, 6, 40, 500, 998):
            self.refused((LOUD,) * deep + word("a") + (LOUD_END,) * deep)

    def test_an_end_too_few_or_too_many(self):
        self.refused(
            (LOUD,), (LOUD_END,), (LOUD,) + word("a"), word("a") + (LOUD_END,),
            (LOUD,) + word("a") + (LOUD_END, LOUD_END),
            (LOUD, LOUD) + word("a") + (LOUD_END,), (LOUD_END,) + word("a") + (LOUD,), (LOUD_END, LOUD), (LOUD,) * 2000,
            (LOUD_END,) * 2000, (LOUD,) + word("a") + (LOUD_END, LOUD),
        )

    def test_sixty_and_sixty_one_parts(self):
        self.comes_to((END,) * 60, *(PAUSE,) * 60)
        self.comes_to(word("a") * 60, *(A,) * 60)
        self.comes_to(number("1") * 60, *(("number", 1),) * 60)
        self.comes_to((LOUD,) + word("a") * 59 + (LOUD_END,), loud(*(A,) * 59))
        self.comes_to(((LOUD,) + word("a") + (LOUD_END,)) * 30, *(loud(A),) * 30)
        self.refused(
            (END,) * 61, word("a") * 61, number("1") * 61, (LOUD,) + word("a") * 60 + (LOUD_END,),
            ((LOUD,) + word("a") + (LOUD_END,)) * 30 + (END,), ((LOUD,) + word("a") + (LOUD_END,)) * 31,
        )

    def test_two_thousand_notes(self):
        self.refused(
            (END,) * 2000, (NUMBER,) * 2000, word("a") * 666, number("1") * 500, ((0, 1),) * 2000, ((9, 9),) * 2000,
        )

    def test_lists_and_truths_and_others_for_notes(self):
        for note in (
            [6, 1], [0, 1], (True, 1), (0, True), (6, True), (False, True), (False, 1), (6,), (6, 1, 1), (),
            (6, 1, None), [], "61",
            "6", ("6", "1"), ("a", 1), (6, "1"), (None, 1), (6, None), 6, 61, 0, 1, True, False, None, {}, {6: 1},
            ((6, 1),),
            ([6], 1), (6, [1]), (6, (1,)), ((6,), (1,)), b"61", 10 ** 30, (b"6", 1), ("word", "a"),
        ):
            self.refused(
                (note,), (END, note), (note, END), ((0, 1), note, END), (note, (0, 1), END), ((0, 1), (0, 1), note),
                (NUMBER, (0, 1), note, END), (NUMBER, note, (1, 1), END), (LOUD, note, LOUD_END), (note,) * 2000,
            )
        self.comes_to(((0, 1), (1, 1), (6, 1)), B)
        self.refused(
            ((False, 1), (True, 1), (6, 1)), ((0, True), (1, True), (6, True)), ((7, 1), (0, 1), (True, 1), (6, 1)),
        )

    def test_what_is_no_tuple_of_notes(self):
        self.refused(
            [], [(6, 1)], [END, END], list(word("a")), {}, {(6, 1): 1}, {(6, 1)}, "", "61", "a", 0, 1, 6, True, False,
            None, b"", (6, 1),
            (0, 1), (W,), (PAUSE,), (loud(W),), "word",
        )

    def test_anything(self):
        self.comes_to(())
        for thing in ANYTHING:
            if thing != () or not isinstance(thing, tuple):
                self.refused(thing)

    def held_against(self, body):
        text = "".join(f"{tone}{length} " for tone, length in body)
        try:
            told = read(body)
        except NoBody:
            self.assertIsNone(MAY_BE_SOUNDED.fullmatch(text), body)
        else:
            self.assertIsNotNone(MAY_BE_SOUNDED.fullmatch(text), body)
            self.assertEqual(written(told), body)

    def test_all_short_bodies_of_some_notes(self):
        for many in range(6):
            for body in itertools.product([(0, 1), (4, 1), (5, 1), END, NUMBER, LOUD, LOUD_END], repeat=many):
                self.held_against(body)

    def test_bodies_that_were_bent(self):
        chance = random.Random(4)
        for saying in some_sayings("sounds", 200, seed=6):
            body = written(saying)
            for _ in range(12):
                at = chance.randint(0, len(body))
                note = (chance.randint(0, 7), chance.choice([1, 1, 1, 2]))
                bent = body[:at] + (note,) * chance.randint(0, 2) + body[at + chance.randint(0, 2):]
                # The pattern doesn't know how great a number may be.
                text = "".join(f"{tone}{length} " for tone, length in bent)
                if not re.search("71 (51 51 )?([01]1 [0-5]1 ){10}61", text):
                    self.held_against(bent)


if __name__ == "__main__":
    unittest.main()
