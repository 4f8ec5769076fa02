"""Promises 9 and 10: what each kind carries, sayings lessened, the losses."""

import copy
import unittest

from doorkinds.less import carries, lessened
from doorkinds.sayings import is_saying, part_at, paths_of, size_of
from samples import CARRIED, KINDS, NAMES, PAUSE, PICTURE, W, loud, quote, some_sayings, within

SOMEONE = ("word", "someone")
FIRSTS = ["loud", "name", "number", "pause", "picture", "quote", "word"]


class Carries(unittest.TestCase):
    def test_each_kind(self):
        self.assertEqual(carries("letters"), ["loud", "name", "number", "pause", "picture", "quote", "word"])
        self.assertEqual(carries("calls"), ["name", "number", "pause", "quote", "word"])
        self.assertEqual(carries("pages"), ["loud", "name", "number", "pause", "picture", "word"])
        self.assertEqual(carries("sounds"), ["loud", "number", "pause", "word"])

    def test_the_list_is_the_askers_own(self):
        for kind in KINDS:
            told = carries(kind)
            again = carries(kind)
            self.assertIs(type(told), list)
            self.assertIsNot(told, again)
            told.clear()
            told.append("nothing")
            self.assertEqual(again, CARRIED[kind])
            self.assertEqual(carries(kind), CARRIED[kind])


class Lessened(unittest.TestCase):
    def comes_to(self, ahead, kind, left, losses):
        with self.subTest(ahead=ahead, kind=kind):
            told = lessened(ahead, kind)
            self.assertIs(type(told), tuple)
            self.assertEqual(len(told), 2)
            self.assertEqual(told, (left, losses))
            self.assertIs(type(told[0]), tuple)
            self.assertIs(type(told[1]), list)
            for loss in told[1]:
                self.assertIs(type(loss), tuple)
                self.assertIs(type(loss[0]), tuple)

    def test_of_no_parts(self):
        for kind in KINDS:
            self.comes_to((), kind, (), [])

    def test_each_part_alone(self):
        name = ("name", "ann@hill")
        for part in [W, ("number", -7), PAUSE]:
            for kind in KINDS:
                self.comes_to((part,), kind, (part,), [])
        for kind in ("letters", "calls", "pages"):
            self.comes_to((name,), kind, (name,), [])
        self.comes_to((name,), "sounds", (SOMEONE,), [((0,), "name")])
        for kind in ("letters", "pages"):
            self.comes_to((PICTURE,), kind, (PICTURE,), [])
        for kind in ("calls", "sounds"):
            self.comes_to((PICTURE,), kind, (), [((0,), "picture")])
        for kind in ("letters", "pages", "sounds"):
            self.comes_to((loud(W),), kind, (loud(W),), [])
        self.comes_to((loud(W),), "calls", (W,), [((0,), "loud")])
        for kind in ("letters", "calls"):
            self.comes_to((quote(W),), kind, (quote(W),), [])
        for kind in ("pages", "sounds"):
            self.comes_to((quote(W),), kind, (W,), [((0,), "quote")])

    def test_sixty_parts(self):
        for kind in KINDS:
            self.comes_to((W,) * 60, kind, (W,) * 60, [])
        full = (quote(*(W,) * 29), PICTURE, loud(*(PAUSE,) * 28))
        self.assertEqual(size_of(full), 60)
        self.comes_to(full, "letters", full, [])
        self.comes_to(full, "calls", (quote(*(W,) * 29), *(PAUSE,) * 28), [((1,), "picture"), ((2,), "loud")])
        self.comes_to(full, "pages", (*(W,) * 29, PICTURE, loud(*(PAUSE,) * 28)), [((0,), "quote")])
        self.comes_to(full, "sounds", (*(W,) * 29, loud(*(PAUSE,) * 28)), [((0,), "quote"), ((1,), "picture")])
        self.comes_to((PICTURE,) * 60, "sounds", (), [((at,), "picture") for at in range(60)])

    def test_names_of_every_kind(self):
        for kind in KINDS:
            for name in NAMES[kind]:
                said = (W, loud(("name", name), quote(("name", name))))
                self.comes_to(said, "letters", said, [])
                self.comes_to(said, "sounds", (W, loud(SOMEONE, SOMEONE)), [
                    ((1, 0), "name"), ((1, 1), "quote"), ((1, 1, 0), "name"),
                ])
                self.comes_to(said, "calls", (W, ("name", name), quote(("name", name))), [((1,), "loud")])
                self.comes_to(said, "pages", (W, loud(("name", name), ("name", name))), [((1, 1), "quote")])

    def test_groups_within_one_another(self):
        a, b, c, d = [("word", word) for word in "abcd"]
        said = (a, loud(b, quote(c, loud(d), PAUSE), W), a)
        self.comes_to(said, "letters", said, [])
        self.comes_to(said, "calls", (a, b, quote(c, d, PAUSE), W, a), [((1,), "loud"), ((1, 1, 1), "loud")])
        self.comes_to(said, "pages", (a, loud(b, c, loud(d), PAUSE, W), a), [((1, 1), "quote")])
        self.comes_to(said, "sounds", (a, loud(b, c, loud(d), PAUSE, W), a), [((1, 1), "quote")])
        said = (quote(loud(quote(W, PICTURE), a), b), c)
        self.comes_to(said, "calls", (quote(quote(W), a, b), c), [((0, 0), "loud"), ((0, 0, 0, 1), "picture")])
        self.comes_to(said, "pages", (loud(W, PICTURE, a), b, c), [((0,), "quote"), ((0, 0, 0), "quote")])
        self.comes_to(said, "sounds", (loud(W, a), b, c), [
            ((0,), "quote"), ((0, 0, 0), "quote"), ((0, 0, 0, 1), "picture"),
        ])

    def test_four_deep(self):
        self.comes_to((within("loud", 3, W),), "calls", (W,), [((0,), "loud"), ((0, 0), "loud"), ((0, 0, 0), "loud")])
        self.comes_to((within("loud", 3, W),), "sounds", (within("loud", 3, W),), [])
        self.comes_to((within("quote", 3, W),), "sounds", (W,), [
            ((0,), "quote"), ((0, 0), "quote"), ((0, 0, 0), "quote"),
        ])
        self.comes_to((within("quote", 3, W),), "calls", (within("quote", 3, W),), [])

    def test_groups_that_are_left_empty(self):
        self.comes_to((loud(PICTURE),), "sounds", (), [((0, 0), "picture")])
        self.comes_to((quote(PICTURE),), "calls", (), [((0, 0), "picture")])
        self.comes_to((loud(PICTURE),), "calls", (), [((0,), "loud"), ((0, 0), "picture")])
        self.comes_to((quote(PICTURE),), "sounds", (), [((0,), "quote"), ((0, 0), "picture")])
        self.comes_to((quote(PICTURE),), "pages", (PICTURE,), [((0,), "quote")])
        self.comes_to((loud(PICTURE),), "pages", (loud(PICTURE),), [])
        self.comes_to((within("loud", 3, PICTURE, PICTURE),), "sounds", (), [
            ((0, 0, 0, 0), "picture"), ((0, 0, 0, 1), "picture"),
        ])
        self.comes_to((loud(quote(loud(PICTURE))),), "sounds", (), [((0, 0), "quote"), ((0, 0, 0, 0), "picture")])
        self.comes_to((quote(loud(quote(PICTURE))),), "calls", (), [((0, 0), "loud"), ((0, 0, 0, 0), "picture")])

    def test_groups_that_are_left_empty_behind_and_ahead_of_others(self):
        self.comes_to((W, loud(PAUSE), loud(PICTURE), W, loud(PICTURE, W)), "sounds", (W, loud(PAUSE), W, loud(W)), [
            ((2, 0), "picture"), ((4, 0), "picture"),
        ])
        said = (loud(loud(PICTURE), W, loud(loud(PICTURE))), quote(PICTURE), PAUSE)
        self.comes_to(said, "sounds", (loud(W), PAUSE), [
            ((0, 0, 0), "picture"), ((0, 2, 0, 0), "picture"), ((1,), "quote"), ((1, 0), "picture"),
        ])
        self.comes_to((quote(W), quote(loud(PICTURE)), quote(PAUSE)), "calls", (quote(W), quote(PAUSE)), [
            ((1, 0), "loud"), ((1, 0, 0), "picture"),
        ])

    def test_numbers_in_paths_are_those_of_the_saying_ahead(self):
        said = (PICTURE, quote(PICTURE, ("name", "ann@hill")), W, ("name", "ann@hill"), PICTURE, loud(W, PICTURE))
        self.comes_to(said, "sounds", (SOMEONE, W, SOMEONE, loud(W)), [
            ((0,), "picture"), ((1,), "quote"), ((1, 0), "picture"), ((1, 1), "name"), ((3,), "name"),
            ((4,), "picture"),
            ((5, 1), "picture"),
        ])

    def test_losses_of_many_sayings(self):
        for ahead in KINDS:
            for said in some_sayings(ahead, 60, firsts=FIRSTS):
                for kind in KINDS:
                    left, losses = lessened(said, kind)
                    lost = [(path, part_at(said, path)[0]) for path in paths_of(said)]
                    self.assertEqual(losses, [loss for loss in lost if loss[1] not in CARRIED[kind]])
                    if "name" not in carries(kind) or ahead == kind:
                        self.assertTrue(is_saying(kind, left))

    def test_lessened_again_it_loses_nothing(self):
        for ahead in KINDS:
            for said in some_sayings(ahead, 60, firsts=FIRSTS, seed=1):
                for kind in KINDS:
                    left = lessened(said, kind)[0]
                    self.assertEqual(lessened(left, kind), (left, []))

    def test_in_both_orders_it_comes_to_like_sayings(self):
        for ahead in KINDS:
            for said in some_sayings(ahead, 60, firsts=FIRSTS, seed=2):
                for kind in KINDS:
                    for other in KINDS:
                        self.assertEqual(
                            lessened(lessened(said, kind)[0], other)[0], lessened(lessened(said, other)[0], kind)[0],
                        )

    def test_the_list_is_the_askers_own(self):
        said = (PICTURE, quote(W))
        for kind in KINDS:
            told = lessened(said, kind)[1]
            again = lessened(said, kind)[1]
            self.assertIsNot(told, again)
            kept = list(again)
            told.append(((9,), "word"))
            self.assertEqual(again, kept)
            self.assertEqual(lessened(said, kind)[1], kept)

    def test_the_saying_stays(self):
        said = (PICTURE, quote(W, loud(PICTURE)), ("name", "ann@hill"))
        before = copy.deepcopy(said)
        for kind in KINDS:
            lessened(said, kind)
        self.assertEqual(said, before)


if __name__ == "__main__":
    unittest.main()
