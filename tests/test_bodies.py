"""Promise 19: bodies by any kind."""

import unittest

from doorkinds import calls, letters, pages, sounds
from doorkinds.bodies import is_body, read_as, written_as
from doorkinds.errors import DoorError, NoBody, NotCarried
from oddities import ANYTHING
from samples import CARRIED, KINDS, NAMES, PAUSE, PICTURE, W, loud, quote, some_sayings, within

FILES = {"letters": letters, "calls": calls, "pages": pages, "sounds": sounds}
FIRSTS = ["loud", "name", "number", "pause", "picture", "quote", "word"]
BODIES = {
    "letters": "hi -1 ; < hi >",
    "calls": ("hi", "number", "minus", "one", "over", "pause", "quote", "hi", "unquote"),
    "pages": ("hi -1", "<br>", "<b>", "hi", "</b>"),
    "sounds": ((1, 1), (1, 1), (1, 1), (2, 1), (6, 1), (7, 1), (5, 1), (5, 1), (0, 1), (1, 1), (6, 1), (6, 1)),
}


def part_of(kind, first):
    """Some part of the kind with this first word."""
    return {
        "word": W, "number": ("number", -1), "pause": PAUSE, "picture": PICTURE, "loud": loud(W), "quote": quote(W),
        "name": ("name", NAMES[kind][0]),
    }[first]


class There(unittest.TestCase):
    def test_a_saying_that_it_carries_there_and_back(self):
        for kind in KINDS:
            for first in CARRIED[kind]:
                saying = (part_of(kind, first),)
                body = written_as(kind, saying)
                self.assertEqual(body, FILES[kind].written(saying))
                self.assertIs(type(body), str if kind == "letters" else tuple)
                self.assertEqual(read_as(kind, body), saying)
                self.assertIs(is_body(kind, body), True)

    def test_of_no_parts(self):
        self.assertEqual([written_as(kind, ()) for kind in KINDS], ["", (), (), ()])
        for kind in KINDS:
            self.assertEqual(read_as(kind, written_as(kind, ())), ())

    def test_as_the_document_writes(self):
        for kind in KINDS:
            saying = {
                "letters": (W, ("number", -1), PAUSE, loud(W)), "calls": (W, ("number", -1), PAUSE, quote(W)),
                "pages": (W, ("number", -1), PAUSE, loud(W)), "sounds": (W, ("number", -1), PAUSE),
            }[kind]
            self.assertEqual(written_as(kind, saying), BODIES[kind])
            self.assertEqual(read_as(kind, BODIES[kind]), saying)

    def test_many_sayings(self):
        for kind in KINDS:
            for saying in some_sayings(kind, 100, seed=7):
                body = written_as(kind, saying)
                self.assertEqual(body, FILES[kind].written(saying))
                self.assertEqual(read_as(kind, body), saying)
                self.assertIs(is_body(kind, body), True)


class Uncarried(unittest.TestCase):
    def refused(self, kind, saying, at):
        with self.subTest(kind=kind, saying=saying):
            with self.assertRaises(NotCarried) as caught:
                written_as(kind, saying)
            self.assertIs(type(caught.exception), NotCarried)
            self.assertIsInstance(caught.exception, DoorError)
            told = caught.exception.at
            self.assertEqual(told, at)
            self.assertIs(type(told), tuple)
            for number in told:
                self.assertIs(type(number), int)

    def test_at_the_top_and_behind_others(self):
        for kind in KINDS:
            for first in FIRSTS:
                if first not in CARRIED[kind]:
                    part = part_of(kind, first)
                    self.refused(kind, (part,), (0,))
                    self.refused(kind, (W, PAUSE, part), (2,))
                    self.refused(kind, (W,) * 20 + (part,), (20,))
                    self.refused(kind, (W, part, part), (1,))

    def test_within_a_group(self):
        for kind, group in (("calls", "quote"), ("pages", "loud"), ("sounds", "loud")):
            for first in FIRSTS:
                if first not in CARRIED[kind]:
                    part = part_of(kind, first)
                    self.refused(kind, ((group, (part,)),), (0, 0))
                    self.refused(kind, (W, (group, (W, W, part, W)), part), (1, 2))
                    self.refused(kind, (within(group, 2, W, part),), (0, 0, 1))
                    self.refused(kind, ((group, (W,)), W, (group, ((group, (part,)), part)), part), (2, 0, 0))

    def test_the_first_in_the_order_of_paths(self):
        self.refused("calls", (W, loud(PICTURE), PICTURE), (1,))
        self.refused("calls", (quote(W, quote(PICTURE)), loud(W)), (0, 1, 0))
        self.refused("sounds", (loud(W, loud(quote(PICTURE))), PICTURE), (0, 1, 0))
        self.refused("sounds", (loud(W), loud(loud(PICTURE, quote(W)))), (1, 0, 0))
        self.refused("pages", (PICTURE, loud(PICTURE, quote(W), quote(W)), quote(W)), (1, 1))
        self.refused("sounds", (("name", "c-e-g"), PICTURE), (0,))

    def test_many_sayings(self):
        for kind in KINDS:
            for saying in some_sayings(kind, 100, firsts=FIRSTS, seed=8):
                first = first_not_carried(kind, saying)
                if first is None:
                    self.assertEqual(read_as(kind, written_as(kind, saying)), saying)
                else:
                    self.refused(kind, saying, first)


def first_not_carried(kind, parts):
    for at, part in enumerate(parts):
        if part[0] not in CARRIED[kind]:
            return (at,)
        found = first_not_carried(kind, part[1]) if part[0] in ("loud", "quote") else None
        if found is not None:
            return (at, *found)
    return None


class Reading(unittest.TestCase):
    def refused(self, kind, body):
        with self.subTest(kind=kind, body=body):
            with self.assertRaises(NoBody) as caught:
                read_as(kind, body)
            self.assertIs(type(caught.exception), NoBody)
            self.assertIs(is_body(kind, body), False)

    def test_bodies_of_one_kind_asked_of_another_one(self):
        for kind in KINDS:
            for other in KINDS:
                if other != kind:
                    self.refused(other, BODIES[kind])
        self.refused("calls", ("<br>",))
        self.refused("pages", ("number", "one", "over"))
        self.refused("letters", "<a /hill/ann>")
        self.refused("sounds", ("hi",))
        self.assertEqual(read_as("letters", "<br>"), (loud(("word", "br")),))
        # Some are bodies of two kinds.
        self.assertEqual(read_as("calls", ("hi",)), (W,))
        self.assertEqual(read_as("pages", ("hi",)), (W,))
        self.assertEqual(read_as("calls", ("pause",)), (PAUSE,))
        self.assertEqual(read_as("pages", ("pause",)), (("word", "pause"),))
        for kind in ("calls", "pages", "sounds"):
            self.assertEqual(read_as(kind, ()), ())
            self.refused(kind, "")
        self.refused("letters", ())

    def test_a_body_just_where_it_reads(self):
        for kind in KINDS:
            for thing in ANYTHING + list(BODIES.values()) + [list(BODIES[kind]), (BODIES[kind],)]:
                try:
                    told = FILES[kind].read(thing)
                except NoBody:
                    self.refused(kind, thing)
                else:
                    self.assertEqual(read_as(kind, thing), told)
                    self.assertIs(is_body(kind, thing), True)

    def test_names_are_of_the_kind(self):
        self.assertEqual(read_as("letters", "ann@hill"), (("name", "ann@hill"),))
        self.assertEqual(read_as("pages", ("<a /hill/ann>",)), (("name", "/hill/ann"),))
        self.assertEqual(read_as("calls", ("name", "one", "two", "three", "over")), (("name", "+123"),))
        self.refused("letters", "/hill/ann")
        self.refused("letters", "+123")
        self.refused("pages", ("<a ann@hill>",))
        self.refused("calls", ("+123",))


if __name__ == "__main__":
    unittest.main()
