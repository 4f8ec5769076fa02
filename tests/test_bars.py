"""Promise 24: tests, bars, the first bar that stops."""

import itertools
import random
import unittest

from doorkinds.bars import barred_by, is_bars, is_test
from helping import OWN, PLAIN, thing_of
from oddities import ANYTHING, DEEP_DICT, DEEP_LIST, DEEP_TUPLE, NO_TEXTS
from samples import KINDS, NAMES, PAUSE, PICTURE, W, loud, nested, quote, some_sayings

ASKS = ("asks",)
SAYS = ("says", "hi")
FIRSTS = ["word", "number", "name", "pause", "picture", "loud", "quote"]
RIGHT = [
    ("from", "ann@hill"), ("from", "+123"), ("from", "/hill/ann"), ("from", "c-e-g"), ("from", "a@doora"),
    ("to", "ann@hill"), ("to", "+123456789"), ("to", "/a"), ("to", "g-a-a"),
    ("house", "hill"), ("house", "a"), ("house", "abcdefgh"),
    SAYS, ("says", "a"), ("says", "abcdefgh"), ("says", "number"),
    *[("has", first) for first in FIRSTS],
    ("longer", 0), ("longer", 1), ("longer", 59), ("longer", 60),
    ASKS,
    ("not", ASKS), ("not", ("longer", 60)), ("not", ("not", ("not", ASKS))),
    ("all", (ASKS,)), ("all", (ASKS, SAYS)), ("all", (ASKS, SAYS, ASKS)), ("all", (ASKS, ASKS, ASKS, ASKS)),
    ("any", (ASKS,)), ("any", (ASKS, SAYS)), ("any", (ASKS, SAYS, ASKS)), ("any", (ASKS, ASKS, ASKS, SAYS)),
    ("all", (("any", (("not", ASKS), ASKS)), SAYS)),
]


def deep(many, part=ASKS, firsts=("not", "all", "any")):
    """A test that is so many deep."""
    for number in range(many - 1):
        first = firsts[number % len(firsts)]
        part = (first, part if first == "not" else (part,))
    return part


class Tests(unittest.TestCase):
    def right(self, *things):
        for thing in things:
            with self.subTest(thing=thing):
                self.assertIs(is_test(thing), True)
                self.assertIs(is_test(("not", thing)), True)

    def wrong(self, *things):
        for thing in things:
            with self.subTest(thing=thing):
                self.assertIs(is_test(thing), False)
                self.assertIs(is_test(("not", thing)), False)
                self.assertIs(is_test(("all", (ASKS, thing))), False)
                self.assertIs(is_test(("any", (thing, ASKS))), False)

    def test_each_word_right(self):
        for thing in RIGHT:
            with self.subTest(thing=thing):
                self.assertIs(is_test(thing), True)

    def test_names_of_every_kind(self):
        for kind in KINDS:
            for name in PLAIN[kind] + OWN[kind][0] + OWN[kind][1]:
                self.right(("from", name), ("to", name))

    def test_names_that_are_none(self):
        for thing in [
            "", "ann", "ann@", "Ann@hill", "ann@hill ", "+12", "+1234567890", "123", "/", "hill", "/a/b/c/d", "c",
            "c-h", "c-e-", "ann@hill\n", *NO_TEXTS,
        ]:
            self.wrong(("from", thing), ("to", thing))

    def test_words_that_are_none(self):
        for thing in ["", "A", "abcdefghi", "a b", "a1", "1", "a\n", "-", "ann@hill", *NO_TEXTS]:
            self.wrong(("house", thing), ("says", thing))

    def test_what_no_part_begins_with(self):
        for thing in ["", "words", "Word", "loud ", "someone", "asks", "hi", "wordnumber", "letters", *NO_TEXTS]:
            self.wrong(("has", thing))

    def test_numbers_of_longer(self):
        self.right(*[("longer", number) for number in range(61)])
        for thing in [-1, 61, 62, 10 ** 9, -10 ** 30, 10 ** 30, True, False, None, "0", "", [0], (0,), [], (), {}]:
            self.wrong(("longer", thing))

    def test_another_word(self):
        for first in [
            "", "From", "form", "too", "houses", "say", "hass", "long", "ask", "none", "none of", "nots", "every",
            "some", "or", "and", "word", "loud",
        ]:
            for held in ["hi", "ann@hill", 0, ASKS, (ASKS,), "word"]:
                self.wrong((first, held))
            self.wrong((first,))
        for first in NO_TEXTS:
            for held in ["hi", ASKS, (ASKS,)]:
                self.wrong((first, held))
            self.wrong((first,))

    def test_what_one_word_holds_under_another(self):
        helds = {
            "from": "ann@hill", "to": "+123", "house": "hill", "says": "hi", "has": "word", "longer": 3, "not": ASKS,
            "all": (ASKS,), "any": (ASKS,),
        }
        alike = [{"from", "to"}, {"house", "says", "has"}, {"all", "any"}, {"longer"}, {"not"}]
        for first in helds:
            for other, held in helds.items():
                fits = any(first in group and other in group for group in alike) and not (
                    first == "has" and held not in FIRSTS
                )
                self.assertIs(is_test((first, held)), fits, (first, held))

    def test_a_list_for_a_tuple(self):
        for thing in RIGHT:
            self.wrong(list(thing))
        self.wrong(
            ("not", list(ASKS)), ("not", [ASKS]), ("all", [ASKS]), ("any", [ASKS, SAYS]), ("all", (list(SAYS),)),
            ("any", (ASKS, list(ASKS))), {"asks": True}, {"says": "hi"}, "asks", ["asks"],
        )

    def test_one_thing_more_or_less(self):
        for thing in RIGHT:
            self.wrong((*thing, None), (*thing, "hi"), (*thing, ASKS), (None, *thing), thing[:0])
            if len(thing) == 2:
                self.wrong(thing[:1], thing[1:] if thing[0] not in ("not",) else (thing,))
        self.wrong(("asks", ()), ("asks", True), ("asks", "hi"), ("asks", None), ("asks", "asks"), ())

    def test_how_many_within(self):
        for first in ("all", "any"):
            self.right(*[(first, (ASKS,) * many) for many in (1, 2, 3, 4)])
            self.wrong(*[(first, (ASKS,) * many) for many in (0, 5, 6, 2000)])
            self.wrong((first, ASKS), (first, SAYS), (first, "asks"), (first, None), (first, {ASKS: SAYS}), (first, 4))
        self.wrong(("not", (ASKS,)), ("not", (ASKS, ASKS)), ("not", ()), ("not", None), ("not", "asks"), ("not", []))

    def test_how_deep(self):
        for firsts in (("not",), ("all",), ("any",), ("not", "all"), ("any", "not"), ("all", "any", "not")):
            for part in (ASKS, SAYS, ("longer", 3), ("from", "ann@hill"), ("has", "loud")):
                for many in (1, 2, 3, 4):
                    self.assertIs(is_test(deep(many, part, firsts)), True)
                for many in (5, 6, 10, 35):
                    self.assertIs(is_test(deep(many, part, firsts)), False)

    def test_one_of_several_is_too_deep(self):
        fine = ("all", (ASKS, deep(3), SAYS))
        self.assertIs(is_test(fine), True)
        self.assertIs(is_test(("any", (ASKS, ASKS, ASKS, deep(3)))), True)
        for at in range(4):
            tests = [ASKS] * 4
            tests[at] = deep(4)
            self.assertIs(is_test(("all", tuple(tests))), False)
            self.assertIs(is_test(("any", tuple(tests))), False)

    def test_very_wide_and_deep(self):
        wide = ASKS
        for _ in range(18):
            wide = ("all", (wide, wide, wide, wide))
        self.assertIs(is_test(wide), False)
        full = ("all", (("any", (("all", (ASKS,) * 4),) * 4),) * 4)
        self.assertIs(is_test(full), True)

    def test_anything(self):
        for thing in ANYTHING:
            if thing != ASKS:
                self.assertIs(is_test(thing), False)
                self.assertIs(is_test(("not", thing)), False)
                self.assertIs(is_test(("all", thing)), False)
                self.assertIs(is_test(("any", (thing,))), False)


class Bars(unittest.TestCase):
    def test_none_one_and_eight(self):
        self.assertIs(is_bars(()), True)
        for test in RIGHT:
            self.assertIs(is_bars(((0, test),)), True)
            self.assertIs(is_bars(((1, test),)), True)
        for many in range(9):
            self.assertIs(is_bars(((0, ASKS), (1, SAYS)) * (many // 2) + ((1, ASKS),) * (many % 2)), True)
        for many in (9, 10, 16, 2000):
            self.assertIs(is_bars(((0, ASKS),) * many), False)

    def test_sides_that_are_none(self):
        for side in [True, False, -1, 2, "0", None, [0], (0,), [], (), {}, 10 ** 30, "", DEEP_LIST]:
            self.assertIs(is_bars(((side, ASKS),)), False)
            self.assertIs(is_bars(((0, ASKS), (side, ASKS))), False)

    def test_another_form(self):
        for thing in [
            [], [(0, ASKS)], {}, {0: ASKS}, (0, ASKS), ([0, ASKS],), ((0, ASKS, ASKS),), ((0, ASKS, None),), ((0,),),
            ((ASKS,),), ((ASKS, 0),), ((),), (None,), (0,), ("",), ((0, list(ASKS)),), ((0, [ASKS]),), (ASKS,), ASKS,
            (((0, ASKS),),), ((0, ASKS), None), ((0, ASKS), [1, ASKS]), "", "asks", None, True, False, 0, 1,
            DEEP_LIST, DEEP_TUPLE, DEEP_DICT,
        ]:
            with self.subTest(thing=thing):
                self.assertIs(is_bars(thing), False)

    def test_tests_that_are_none(self):
        for thing in [("asks", 1), ("longer", 61), ("longer", True), ("from", "ann"), ("says", ""), deep(5), deep(39)]:
            self.assertIs(is_bars(((0, thing),)), False)
            self.assertIs(is_bars(((0, ASKS), (1, thing))), False)

    def test_anything(self):
        for thing in ANYTHING:
            self.assertIs(is_bars(thing), thing == ())
            self.assertIs(is_bars((thing,)), False)
            self.assertIs(is_bars(((0, thing),)), False)


class Stopping(unittest.TestCase):
    def setUp(self):
        self.saying = (W, ("number", 4), loud(("word", "deep"), quote(PAUSE, PICTURE)), ("name", "cy@dale"))
        self.thing = thing_of("letters", 3, "ann@hill", "bob@dale", *self.saying)
        self.cry = thing_of("letters", 3, "ann@hill", None, *self.saying)
        self.ask = thing_of("letters", 3, "ann@hill", "bob@dale", *self.saying, asks=True)

    def holds(self, test, thing, saying):
        told = [
            barred_by(((0, test),), 0, thing, saying), barred_by(((1, test),), 1, thing, saying),
            barred_by(((0, ("not", test)),), 0, thing, saying),
        ]
        self.assertIn(told, ([0, 0, None], [None, None, 0]), test)
        for one in told:
            self.assertIsNot(one, False)
        self.assertIsNone(barred_by(((0, test),), 1, thing, saying))
        return told[0] == 0

    def test_from(self):
        for thing in (self.thing, self.cry, self.ask):
            self.assertTrue(self.holds(("from", "ann@hill"), thing, self.saying))
            for name in ("bob@dale", "cy@dale", "ann@hil", "an@hill", "nn@hill", "ann@hilla", "+123", "/ann"):
                self.assertFalse(self.holds(("from", name), thing, self.saying))

    def test_to(self):
        for thing in (self.thing, self.ask):
            self.assertTrue(self.holds(("to", "bob@dale"), thing, self.saying))
            for name in ("ann@hill", "cy@dale", "bob@dal", "bob@dalea", "+123"):
                self.assertFalse(self.holds(("to", name), thing, self.saying))
        self.assertFalse(self.holds(("to", "bob@dale"), self.cry, self.saying))
        self.assertFalse(self.holds(("to", "ann@hill"), self.cry, self.saying))

    def test_from_and_to_by_every_kind(self):
        for kind in KINDS:
            one, two = PLAIN[kind][:2]
            thing = thing_of(kind, 0, one, two, W)
            self.assertTrue(self.holds(("from", one), thing, (W,)))
            self.assertTrue(self.holds(("to", two), thing, (W,)))
            self.assertFalse(self.holds(("from", two), thing, (W,)))
            self.assertFalse(self.holds(("to", one), thing, (W,)))

    def test_house(self):
        for kind, name, words, others in (
            ("letters", "ann@hill", ["ann", "hill"], ["an", "nn", "a", "hil", "ill", "il", "annhill", "bob", "h"]),
            ("pages", "/old/hill/ann", ["old", "hill", "ann"], ["ol", "ld", "oldhill", "hi", "l", "nn", "an"]),
            ("pages", "/a", ["a"], ["b", "aa"]),
            ("pages", "/aa/ab", ["aa", "ab"], ["a", "b", "aaab"]),
            ("sounds", "c-e-g", ["c", "e", "g"], ["ce", "a", "ceg", "eg"]),
            ("calls", "+123", [], ["a", "one"]),
        ):
            plain = "/zzz" if kind == "pages" else {"letters": "q@q", "sounds": "b-b", "calls": "+000"}[kind]
            for word in words + others:
                test = ("house", word)
                self.assertEqual(self.holds(test, (0, name, plain, None, False, ""), ()), word in words)
                self.assertEqual(self.holds(test, (0, plain, name, None, False, ""), ()), word in words)
                self.assertEqual(self.holds(test, (0, name, None, None, False, ""), ()), word in words)
                self.assertFalse(self.holds(test, (0, plain, None, None, False, ""), ()))

    def test_says(self):
        for saying in (
            (W,), (("word", "a"), W), (loud(W),), (quote(PAUSE, W),), (quote(loud(quote(W))),), (nested(3), PAUSE),
        ):
            self.assertTrue(self.holds(SAYS, self.thing, saying))
        for saying in (
            (), (("word", "hia"),), (("word", "ahi"),), (("word", "h"),), (PAUSE,), (("name", "hi@hi"),),
            (loud(("word", "hib")),), (("number", 1),), (PICTURE,),
        ):
            self.assertFalse(self.holds(SAYS, self.thing, saying))

    def test_has(self):
        parts = {
            "word": W, "number": ("number", 0), "name": ("name", "ann@hill"), "pause": PAUSE, "picture": PICTURE,
        }
        for first in FIRSTS:
            self.assertFalse(self.holds(("has", first), self.thing, ()))
            for other, part in parts.items():
                self.assertEqual(self.holds(("has", first), self.thing, (part,)), first == other)
                self.assertEqual(self.holds(("has", first), self.thing, (loud(part),)), first in (other, "loud"))
                self.assertEqual(self.holds(("has", first), self.thing, (quote(part),)), first in (other, "quote"))
                self.assertEqual(
                    self.holds(("has", first), self.thing, (PAUSE, quote(loud(part)), PAUSE)),
                    first in (other, "quote", "loud", "pause"),
                )
        self.assertFalse(self.holds(("has", "number"), self.thing, (("word", "number"),)))
        self.assertFalse(self.holds(("has", "loud"), self.thing, (("word", "loud"),)))

    def test_longer(self):
        for saying, many in (
            ((), 0), ((W,), 1), ((W, W), 2), ((loud(W),), 2), ((loud(W, W), quote(loud(PAUSE))), 6), ((nested(3),), 4),
            ((PICTURE,), 1), ((W,) * 60, 60), (self.saying, 8),
        ):
            for number in range(61):
                self.assertEqual(self.holds(("longer", number), self.thing, saying), many > number)

    def test_asks(self):
        self.assertTrue(self.holds(ASKS, self.ask, self.saying))
        self.assertFalse(self.holds(ASKS, self.thing, self.saying))
        self.assertFalse(self.holds(ASKS, self.cry, self.saying))
        answer = thing_of("letters", 3, "ann@hill", "bob@dale", W, answers=4)
        self.assertFalse(self.holds(ASKS, answer, (W,)))

    def test_not_all_any_within_one_another(self):
        yes = ("from", "ann@hill")
        no = ("from", "bob@dale")
        for one, two, three in itertools.product((yes, no), repeat=3):
            worths = [test == yes for test in (one, two, three)]
            tests = (one, two, three)
            self.assertEqual(self.holds(("all", tests), self.thing, ()), all(worths))
            self.assertEqual(self.holds(("any", tests), self.thing, ()), any(worths))
            self.assertEqual(self.holds(("not", one), self.thing, ()), not worths[0])
            self.assertEqual(
                self.holds(("all", (("any", tests[:2]), ("not", three))), self.thing, ()),
                any(worths[:2]) and not worths[2],
            )
            self.assertEqual(
                self.holds(("any", (("all", (one, ("not", two))), three)), self.thing, ()),
                (worths[0] and not worths[1]) or worths[2],
            )
        for first in ("all", "any"):
            self.assertTrue(self.holds((first, (yes,)), self.thing, ()))
            self.assertFalse(self.holds((first, (no,)), self.thing, ()))
            for at in range(4):
                self.assertEqual(self.holds(("all", (yes,) * at + (no,) + (yes,) * (3 - at)), self.thing, ()), False)
                self.assertEqual(self.holds(("any", (no,) * at + (yes,) + (no,) * (3 - at)), self.thing, ()), True)

    def test_the_first_of_several_of_the_side_by_its_number_among_all(self):
        yes = ("from", "ann@hill")
        no = ASKS
        for tests in itertools.product((yes, no), repeat=4):
            for sides in itertools.product((0, 1), repeat=4):
                bars = tuple(zip(sides, tests))
                for side in (0, 1):
                    due = [at for at in range(4) if bars[at] == (side, yes)]
                    told = barred_by(bars, side, self.thing, self.saying)
                    self.assertEqual(told, due[0] if due else None)
                    if due:
                        self.assertIs(type(told), int)

    def test_no_bars(self):
        for side in (0, 1):
            self.assertIsNone(barred_by((), side, self.thing, self.saying))
        self.assertIsNone(barred_by(((1, ("longer", 0)),) * 8, 0, self.thing, self.saying))
        self.assertEqual(barred_by(((1, ("longer", 0)),) * 7 + ((0, ("longer", 0)),), 0, self.thing, self.saying), 7)


class ManySayings(unittest.TestCase):
    def truth(self, test, thing, saying, parts):
        """Whether the test holds, by the document's words."""
        first = test[0]
        if first in ("all", "any"):
            return {"all": all, "any": any}[first](self.truth(one, thing, saying, parts) for one in test[1])
        if first == "not":
            return not self.truth(test[1], thing, saying, parts)
        return {
            "from": lambda: thing[1] == test[1],
            "to": lambda: thing[2] == test[1],
            "says": lambda: ("word", test[1]) in parts,
            "has": lambda: test[1] in [part[0] for part in parts],
            "longer": lambda: len(parts) > test[1],
            "asks": lambda: thing[4] is True,
        }[first]()

    def parts(self, saying):
        found = []
        for part in saying:
            found.append(part)
            if part[0] in ("loud", "quote"):
                found += self.parts(part[1])
        return found

    def some_test(self, chance, kind, many):
        first = chance.choice(["from", "to", "says", "has", "longer", "asks"] + ["not", "all", "any"] * (many > 1))
        if first in ("from", "to"):
            return (first, chance.choice(NAMES[kind]))
        if first == "says":
            return (first, chance.choice(["hi", "someone", "a", "z", "over"]))
        if first == "has":
            return (first, chance.choice(FIRSTS))
        if first == "longer":
            return (first, chance.randint(0, 20))
        if first == "not":
            return (first, self.some_test(chance, kind, many - 1))
        if first == "asks":
            return ASKS
        return (first, tuple(self.some_test(chance, kind, many - 1) for _ in range(chance.randint(1, 4))))

    def test_some_bars_on_some_sayings(self):
        for kind in KINDS:
            chance = random.Random(kind)
            for number, saying in enumerate(some_sayings(kind, 150, seed=24)):
                bars = tuple((chance.randint(0, 1), self.some_test(chance, kind, 4)) for _ in range(5))
                self.assertIs(is_bars(bars), True)
                thing = thing_of(
                    kind, number, chance.choice(NAMES[kind]), chance.choice(NAMES[kind]), *saying,
                    asks=chance.random() < 0.5,
                )
                parts = self.parts(saying)
                for side in (0, 1):
                    due = [at for at, bar in enumerate(bars) if bar[0] == side and self.truth(bar[1], thing, saying,
                        parts)]
                    self.assertEqual(barred_by(bars, side, thing, saying), due[0] if due else None)


if __name__ == "__main__":
    unittest.main()
