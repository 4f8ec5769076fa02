"""Promise 25: things."""

import copy
import itertools
import unittest

from doorkinds.bodies import is_body, written_as
from doorkinds.things import is_thing
from helping import OWN, PLAIN, many_names, thing_of
from oddities import ANYTHING, DEEP_DICT, DEEP_LIST, DEEP_TUPLE, NO_TEXTS
from samples import CARRIED, KINDS, W, some_sayings

BODIES = {kind: written_as(kind, (W, ("number", -12))) for kind in KINDS}
NUMBERS = [0, 1, 2, 10 ** 9, 10 ** 9 + 1, 10 ** 40]
NO_NUMBERS = [-1, -2, -10 ** 9, -10 ** 40, True, False, "0", "1", "", [0], (0,), [], (), {}, {0: 0}, DEEP_LIST]


class Things(unittest.TestCase):
    def setUp(self):
        self.plain = {kind: (3, *PLAIN[kind][:2], None, False, BODIES[kind]) for kind in KINDS}
        self.asks = {kind: (3, *PLAIN[kind][:2], None, True, BODIES[kind]) for kind in KINDS}
        self.answers = {kind: (3, *PLAIN[kind][:2], 7, False, BODIES[kind]) for kind in KINDS}
        self.both = {kind: (3, *PLAIN[kind][:2], 7, True, BODIES[kind]) for kind in KINDS}
        self.cries = {kind: (3, PLAIN[kind][0], None, None, False, BODIES[kind]) for kind in KINDS}
        self.all = [self.plain, self.asks, self.answers, self.both, self.cries]

    def right(self, kind, thing):
        with self.subTest(kind=kind, thing=thing):
            self.assertIs(is_thing(kind, thing), True)

    def wrong(self, kind, thing):
        with self.subTest(kind=kind, thing=thing):
            self.assertIs(is_thing(kind, thing), False)

    def with_at(self, thing, at, held):
        return (*thing[:at], held, *thing[at + 1:])

    def test_right_ones(self):
        for kind in KINDS:
            for things in self.all:
                self.right(kind, things[kind])

    def test_of_another_kind(self):
        for kind in KINDS:
            for other in KINDS:
                if kind != other:
                    for things in self.all:
                        self.wrong(kind, things[other])

    def test_numbers(self):
        for kind in KINDS:
            for things in self.all:
                for number in NUMBERS:
                    self.right(kind, self.with_at(things[kind], 0, number))
                for number in [*NO_NUMBERS, None]:
                    self.wrong(kind, self.with_at(things[kind], 0, number))

    def test_names_of_the_kind(self):
        for kind in KINDS:
            names = PLAIN[kind] + OWN[kind][0] + OWN[kind][1] + many_names(kind, 3)
            for one, two in itertools.product(names, names):
                self.right(kind, (0, one, two, None, False, BODIES[kind]))
            for name in names:
                self.right(kind, (0, name, None, None, False, BODIES[kind]))

    def test_names_that_are_none(self):
        for kind in KINDS:
            wrong = ["", "ann", "Ann@hill", "+12", "/", "c", "c-h"]
            wrong += [name for other in KINDS if other != kind for name in PLAIN[other]]
            for things in self.all:
                for thing in wrong + NO_TEXTS:
                    self.wrong(kind, self.with_at(things[kind], 1, thing))
                    if thing is not None:
                        self.wrong(kind, self.with_at(things[kind], 2, thing))

    def test_answers(self):
        for kind in KINDS:
            for things in (self.plain, self.asks):
                for number in NUMBERS:
                    self.right(kind, self.with_at(things[kind], 3, number))
                for number in NO_NUMBERS:
                    self.wrong(kind, self.with_at(things[kind], 3, number))

    def test_asks(self):
        for kind in KINDS:
            for things in (self.plain, self.answers):
                for asks in (True, False):
                    self.right(kind, self.with_at(things[kind], 4, asks))
                for asks in (0, 1, None, "", "True", "False", [], [True], (), (False,), {}, 2, -1, DEEP_TUPLE,
                    DEEP_DICT):
                    self.wrong(kind, self.with_at(things[kind], 4, asks))
                    self.wrong(kind, self.with_at(self.cries[kind], 4, asks))

    def test_a_cry_neither_asks_nor_answers(self):
        for kind in KINDS:
            cry = self.cries[kind]
            self.right(kind, cry)
            self.wrong(kind, self.with_at(cry, 4, True))
            for number in NUMBERS + NO_NUMBERS:
                self.wrong(kind, self.with_at(cry, 3, number))
                self.wrong(kind, self.with_at(self.with_at(cry, 3, number), 4, True))
            for things in (self.asks, self.answers, self.both):
                self.wrong(kind, self.with_at(things[kind], 2, None))

    def test_bodies_that_read(self):
        for kind in KINDS:
            for saying in [(), *some_sayings(kind, 40, seed=25)]:
                for things in self.all:
                    self.right(kind, self.with_at(things[kind], 5, written_as(kind, saying)))
        self.right("letters", (0, "ann@hill", "bob@hill", None, False, "  hi \n\n <hi>;;{ 0 } "))

    def test_bodies_that_do_not_read(self):
        wrong = {
            "letters": ["Hi", "< >", "{ hi", "007", "-0", "[]", "+123", "abcdefghi", " ".join(["a"] * 61)],
            "calls": [["hi"], ("Hi",), ("quote",), ("number", "over"), ("spell", "a", "over"), ("a",) * 61, ("",)],
            "pages": [["hi"], ("hi", "a"), ("<b>", "</b>"), ("<a ann@hill>",), ("a  b",), ("",)],
            "sounds": [[], [(6, 1)], ((6, 2),), ((0, 1), (6, 1)), ((7, 1),), ((True, 1),), ((6, 1),) * 61],
        }
        for kind in KINDS:
            others = [BODIES[other] for other in KINDS if other != kind]
            for things in self.all:
                for body in wrong[kind] + others:
                    self.wrong(kind, self.with_at(things[kind], 5, body))
                for body in ANYTHING:
                    self.assertIs(is_thing(kind, self.with_at(things[kind], 5, body)), is_body(kind, body), body)

    def test_more_or_less(self):
        for kind in KINDS:
            for things in self.all:
                thing = things[kind]
                for at in range(6):
                    self.wrong(kind, thing[:at])
                    self.wrong(kind, thing[:at] + thing[at + 1:])
                for more in (None, False, "", (), 0):
                    self.wrong(kind, (*thing, more))
                    self.wrong(kind, (more, *thing))
                self.wrong(kind, (thing,))
                self.wrong(kind, thing + thing)

    def test_lists_and_others_for_the_tuple(self):
        for kind in KINDS:
            for things in self.all:
                thing = things[kind]
                self.wrong(kind, list(thing))
                self.wrong(kind, [thing])
                self.wrong(kind, dict(enumerate(thing)))
                self.wrong(kind, {at: None for at in range(6)})
                self.wrong(kind, "abcdef")

    def test_anything(self):
        for kind in KINDS:
            for thing in ANYTHING:
                self.wrong(kind, thing)
                for at in range(5):
                    if thing is None or isinstance(thing, (int, str)):
                        continue
                    self.wrong(kind, self.with_at(self.plain[kind], at, thing))

    def test_what_is_handed_in_stays(self):
        things = [[3, "ann@hill"], (3, "ann@hill", [], {}, [False], ["hi"]), {"a": [1]}]
        before = copy.deepcopy(things)
        for kind in KINDS:
            for thing in things:
                is_thing(kind, thing)
        self.assertEqual(things, before)

    def test_every_part_that_the_kind_carries(self):
        parts = {
            "word": W, "number": ("number", 0), "pause": ("pause",), "picture": ("picture", ("0",)),
            "loud": ("loud", (W,)), "quote": ("quote", (W,)),
        }
        for kind in KINDS:
            for first in CARRIED[kind]:
                part = parts.get(first, ("name", PLAIN[kind][0]))
                self.right(kind, thing_of(kind, 0, *PLAIN[kind][:2], part))


if __name__ == "__main__":
    unittest.main()
