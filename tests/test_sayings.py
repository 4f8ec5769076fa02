"""Promises 7 and 8: sayings, paths, the part at a path, how many parts."""

import copy
import unittest

from doorkinds.errors import DoorError, NoPath
from doorkinds.sayings import is_saying, part_at, paths_of, size_of
from oddities import ANYTHING, DEEP_LIST, DEEP_TUPLE, NO_TEXTS, SIGNS
from samples import KINDS, NAMES, PAUSE, W, loud, nested, quote

MIXED = (
    W,
    loud(("number", 4), quote(PAUSE, ("picture", ("01", "23"))), W),
    PAUSE,
    quote(loud(quote(("word", "deep"))), ("number", -1)),
    ("picture", ("9",)),
)
MIXED_PATHS = [
    (0,), (1,), (1, 0), (1, 1), (1, 1, 0), (1, 1, 1), (1, 2), (2,),
    (3,), (3, 0), (3, 0, 0), (3, 0, 0, 0), (3, 1), (4,),
]
MIXED_PARTS = [
    MIXED[0], MIXED[1], ("number", 4), quote(PAUSE, ("picture", ("01", "23"))), PAUSE, ("picture", ("01", "23")), W,
    PAUSE, MIXED[3], loud(quote(("word", "deep"))), quote(("word", "deep")), ("word", "deep"), ("number", -1),
    ("picture", ("9",)),
]


class Asking(unittest.TestCase):
    def fits(self, things, kinds=KINDS):
        for kind in kinds:
            for thing in things:
                with self.subTest(kind=kind, thing=thing):
                    self.assertIs(is_saying(kind, thing), True)

    def unfit(self, things, kinds=KINDS):
        for kind in kinds:
            for thing in things:
                with self.subTest(kind=kind, thing=thing):
                    self.assertIs(is_saying(kind, thing), False)

    def unfit_parts(self, parts, kinds=KINDS):
        """Neither alone, nor beside others, nor within others."""
        self.unfit([part for bad in parts for part in [
            (bad,), (W, bad), (bad, W), (loud(bad),), (quote(W, bad),), (PAUSE, loud(quote(bad), W)),
        ]], kinds)


class IsSaying(Asking):
    def test_each_of_the_seven_parts(self):
        parts = [
            W, ("number", 12), PAUSE, ("picture", ("012", "345")), loud(W), quote(W, PAUSE), loud(quote(W), PAUSE),
        ]
        self.fits([(part,) for part in parts] + [tuple(parts), MIXED])
        for kind in KINDS:
            for name in NAMES[kind]:
                self.fits([(("name", name),), (loud(("name", name)),), (W, quote(loud(("name", name))))], [kind])

    def test_names_of_another_kind(self):
        for kind in KINDS:
            for other in KINDS:
                if other != kind:
                    self.unfit_parts([("name", name) for name in NAMES[other]], [kind])
        self.unfit_parts([("name", thing) for thing in NO_TEXTS] + [("name", "ann"), ("name", ""), ("name", "someone")])

    def test_names_of_every_word_and_part(self):
        self.fits([(("word", word),) for word in ["a", "abcdefgh", "someone", "over", "number", "word", "z" * 8]])
        self.unfit_parts(
            [("word", word) for word in ["", "abcdefghi", "A", "a b", "a1", "a\n", "\na", "ann@hill", "+12"]],
        )
        self.unfit_parts([("word", thing) for thing in NO_TEXTS])

    def test_numbers(self):
        big = 10 ** 9
        self.fits([(("number", n),) for n in [0, 1, -1, 9, 10, big, -big, big - 1, 1 - big]])
        self.unfit_parts([("number", n) for n in [big + 1, -big - 1, 10 ** 10, -10 ** 10, 10 ** 100, -10 ** 100]])
        self.unfit_parts([("number", thing) for thing in [
            True, False, None, "", "1", "-1", "a", [], [1], (), (1,), {}, {1: 1}, DEEP_TUPLE, DEEP_LIST,
        ]])

    def test_pauses(self):
        self.fits([(PAUSE,), (PAUSE, PAUSE), (loud(PAUSE),)])
        self.unfit_parts([("pause", None), ("pause", ()), ("pause", "pause"), ("pause", 1, 2), ("pauses",), ("Pause",)])

    def test_pictures(self):
        self.fits([(("picture", rows),) for rows in [
            ("0",), ("01234567",), ("0",) * 6, ("01234567",) * 6, ("89", "00"), ("1", "2", "3", "4", "5"),
        ]])
        self.unfit_parts([("picture", rows) for rows in [
            (), ("0",) * 7, ("01234567",) * 7, ("",), ("", ""), ("0", ""), ("", "0"), ("012345678",),
            ("012345678",) * 2, ("0123456789",), ("01", "0"), ("0", "01"), ("01", "01", "012"), ("01", "1", "01"),
            ("a",), ("0a",), ("a0",), ("0 ",), (" 0",), ("0\n",), ("\n0",), ("0", "\n"), ("-1",), ("+1",), ("0.",),
            ("0/1",), ("01", "0-"), ["0"], ["01", "23"], "0", "01", (0,), (1, 2), (True,), (None,), ("0", None),
            ("0", 0), (None, "0"), (1, "0"), (["0"],), (("0",),), ("0", ["0"]), (["0"], "0"), ({"0": 1},), {"0": 1},
            {}, None, 0, 12, True, (b"0",),
        ]])
        for sign in SIGNS:
            fits = sign in list("0123456789")
            for rows in [(sign,), ("1" + sign,), (sign + "1", "22"), ("22", "1" + sign), ("1" + sign + "1",)]:
                with self.subTest(rows=rows):
                    self.assertIs(is_saying("sounds", (("picture", rows),)), fits)

    def test_groups_hold_something(self):
        self.unfit_parts([("loud", ()), ("quote", ()), loud(()), quote(()), loud(loud()), quote(loud(), W)])

    def test_lists_for_tuples(self):
        self.unfit([[], [W], [list(W)], [["word", "a"]]])
        self.unfit_parts([
            ["word", "hi"], ["pause"], ["number", 1], ["loud", (W,)], ("loud", [W]), ("quote", [W]),
            loud(["word", "hi"]),
            quote(list(PAUSE)), ("loud", [["pause"]]), ["picture", ("0",)], ("picture", ["0"]),
        ])

    def test_more_or_less_in_a_part(self):
        self.unfit_parts([
            (), ("word",), ("number",), ("name",), ("picture",), ("loud",), ("quote",), ("word", "hi", "hi"),
            ("word", "hi", None), ("number", 1, 2), ("picture", ("0",), ("0",)), ("picture", "0", "1"), ("loud", W),
            ("loud", W, W), ("loud", (W,), (W,)), ("quote", (W,), ()), ("quote", PAUSE), ("word", ("hi",)),
        ])
        for kind in KINDS:
            self.unfit_parts([("name", NAMES[kind][0], NAMES[kind][0]), ("name", (NAMES[kind][0],))], [kind])

    def test_other_first_words(self):
        self.unfit_parts([
            ("words", "hi"), ("Word", "hi"), ("", "hi"), ("word\n", "hi"), ("numbers", 1), ("louder", (W,)),
            ("group", (W,)), ("quotes", (W,)), ("hi", "word"), ("letters", "a"), ("pause ",), ("loud ", (W,)),
        ])
        self.unfit_parts([(thing, "hi") for thing in NO_TEXTS] + [(thing,) for thing in NO_TEXTS])

    def test_what_is_no_part(self):
        self.unfit_parts([thing for thing in ANYTHING if thing != ("word", "a")])
        for first in ("word", "number", "name", "picture", "loud", "quote"):
            self.unfit_parts([(first, thing) for thing in [
                None, True, [], {}, (), [[]], "", " ", "~", (None,), ("a",), ([],), DEEP_TUPLE, DEEP_LIST,
            ]])

    def test_what_is_no_tuple(self):
        self.unfit([thing for thing in ANYTHING if not isinstance(thing, tuple)])
        self.unfit([thing for thing in ANYTHING if thing not in [(), (("word", "a"),), (("pause",),)]])
        self.unfit([W, PAUSE, ("loud", (W,)), "word", {W: W}, [W], {0: W}, b""])

    def test_none_sixty_and_sixty_one_parts(self):
        self.fits([(), (W,), (W,) * 59, (W,) * 60])
        self.unfit([(W,) * 61, (PAUSE,) * 61, (W,) * 62, (W,) * 2000])

    def test_parts_within_groups_are_counted(self):
        self.fits([
            (loud(*(W,) * 59),), (W,) * 30 + (quote(*(W,) * 29),), (loud(quote(*(W,) * 58)),),
            (quote(W, W),) * 20, (loud(loud(loud(*(W,) * 57))),), (loud(*(W,) * 29), quote(*(W,) * 29)),
            (loud(*(quote(W),) * 29), PAUSE), (nested(3),) * 15,
        ])
        self.unfit([
            (loud(*(W,) * 60),), (W,) * 30 + (quote(*(W,) * 30),), (loud(quote(*(W,) * 59)),),
            (quote(W, W),) * 20 + (W,), (loud(loud(loud(*(W,) * 58))),), (loud(*(W,) * 30), quote(*(W,) * 29)),
            (loud(*(quote(W),) * 30),), (loud(*(quote(W),) * 29), PAUSE, PAUSE), (nested(3),) * 15 + (PAUSE,),
            (nested(3),) * 16, (W,) * 59 + (loud(W),), (quote(W),) + (W,) * 59,
        ])

    def test_four_and_five_deep(self):
        self.fits([(nested(deep),) for deep in range(4)])
        self.fits([(W, nested(3), nested(3, PAUSE)), (loud(W, loud(W, quote(W, PAUSE), W), W),)])
        self.unfit([(nested(deep),) for deep in range(4, 40)])
        self.unfit([
            (W, nested(4)), (nested(4, PAUSE), W), (nested(3), nested(4)), (nested(4), nested(3)),
            (loud(W, loud(W, quote(W, loud(W)))),), (loud(nested(2), nested(3)),), (quote(nested(3), W),),
        ])

    def test_what_holds_the_same_over_and_over(self):
        part = W
        for _ in range(19):
            part = ("loud", (part,) * 2000)
        for kind in KINDS:
            self.assertIs(is_saying(kind, (part,)), False)
            self.assertIs(is_saying(kind, (part,) * 60), False)
        part = W
        for _ in range(19):
            part = ("quote", (part,) * 2)
        self.assertIs(is_saying("letters", (part,)), False)

    def test_asking_changes_nothing(self):
        things = [[W], (["word", "hi"],), (("loud", [W, PAUSE]),), (("picture", ["0"]),), (("word", {"a": []}),)]
        before = copy.deepcopy(things)
        for thing in things:
            is_saying("letters", thing)
        self.assertEqual(things, before)


class Paths(unittest.TestCase):
    def test_their_order(self):
        self.assertEqual(paths_of(()), [])
        self.assertEqual(paths_of((W,)), [(0,)])
        self.assertEqual(paths_of((W, PAUSE, W)), [(0,), (1,), (2,)])
        self.assertEqual(paths_of((nested(3),)), [(0,), (0, 0), (0, 0, 0), (0, 0, 0, 0)])
        self.assertEqual(paths_of((loud(W, W), W)), [(0,), (0, 0), (0, 1), (1,)])
        self.assertEqual(paths_of(MIXED), MIXED_PATHS)

    def test_beyond_nine_they_stay_numbers(self):
        self.assertEqual(paths_of((W,) * 60), [(at,) for at in range(60)])
        self.assertEqual(paths_of((loud(*(W,) * 59),)), [(0,)] + [(0, at) for at in range(59)])

    def test_parts_without_parts_lead_no_further(self):
        parts = (W, ("number", 1), ("name", "ann@hill"), PAUSE, ("picture", ("01", "23")))
        self.assertEqual(paths_of(parts), [(0,), (1,), (2,), (3,), (4,)])
        self.assertEqual(size_of(parts), 5)

    def test_the_list_is_the_askers_own(self):
        saying = (W, loud(W))
        told = paths_of(saying)
        again = paths_of(saying)
        self.assertIs(type(told), list)
        self.assertIsNot(told, again)
        self.assertEqual([type(path) for path in told], [tuple] * 3)
        told.clear()
        self.assertEqual(again, [(0,), (1,), (1, 0)])
        self.assertEqual(paths_of(saying), [(0,), (1,), (1, 0)])
        empty = paths_of(())
        empty.append((0,))
        self.assertEqual(paths_of(()), [])

    def test_the_saying_stays(self):
        saying = copy.deepcopy(MIXED)
        for path in paths_of(saying):
            part_at(saying, path)
        size_of(saying)
        self.assertEqual(saying, MIXED)
        self.assertIs(type(saying), tuple)


class Sizes(unittest.TestCase):
    def test_each_within_one_another_is_counted(self):
        for saying, size in [
            ((), 0), ((W,), 1), ((PAUSE, W), 2), ((loud(W),), 2), ((loud(W, W), W), 4), ((nested(3),), 4),
            (MIXED, 14), ((W,) * 60, 60), ((loud(*(W,) * 59),), 60), ((("picture", ("0", "1", "2")),), 1),
        ]:
            with self.subTest(saying=saying):
                self.assertEqual(size_of(saying), size)
                self.assertIs(type(size_of(saying)), int)
                self.assertEqual(size_of(saying), len(paths_of(saying)))

    def test_somewhat_beyond_the_bounds(self):
        self.assertEqual(size_of((W,) * 70), 70)
        self.assertEqual(paths_of((nested(5),))[-1], (0,) * 6)
        self.assertEqual(part_at((nested(5),), (0,) * 6), W)


class PartAt(unittest.TestCase):
    def test_every_path_leads_to_its_part(self):
        self.assertEqual([part_at(MIXED, path) for path in MIXED_PATHS], MIXED_PARTS)
        self.assertEqual([part_at(MIXED, path) for path in paths_of(MIXED)], MIXED_PARTS)

    def test_of_each_kind(self):
        for kind in KINDS:
            saying = (("name", NAMES[kind][0]), quote(("name", NAMES[kind][1])))
            self.assertEqual(part_at(saying, (0,)), ("name", NAMES[kind][0]))
            self.assertEqual(part_at(saying, (1, 0)), ("name", NAMES[kind][1]))

    def refused(self, saying, paths):
        for path in paths:
            with self.subTest(path=path):
                with self.assertRaises(NoPath) as caught:
                    part_at(saying, path)
                self.assertIs(type(caught.exception), NoPath)
                self.assertIsInstance(caught.exception, DoorError)

    def test_of_no_number(self):
        self.refused(MIXED, [()])
        self.refused((), [(), (0,), (-1,), (1,)])

    def test_of_a_number_beyond(self):
        self.refused(MIXED, [
            (5,), (6,), (10 ** 9,), (10 ** 30,), (1, 3), (1, 1, 2), (3, 2), (3, 0, 1), (3, 0, 0, 1), (5, 0), (1, 3, 0),
        ])

    def test_of_a_number_below_nought(self):
        self.refused(MIXED, [
            (-1,), (-5,), (-4, 0), (-10 ** 9,), (1, -1), (1, -2, 0), (-4, 1, 0), (1, 1, -1), (3, 0, -1),
        ])

    def test_into_a_part_without_parts(self):
        self.refused(MIXED, [
            (0, 0), (0, 1), (1, 0, 0), (1, 1, 0, 0), (1, 1, 1, 0), (1, 1, 1, 1), (2, 0), (2, -1), (3, 1, 0), (4, 0),
            (4, 1), (3, 0, 0, 0, 0), (0, 0, 0), (3, 0, 0, 0, 0, 0), (0,) * 2000,
        ])
        self.refused((("name", "ann@hill"),), [(0, 0), (0, 1)])

    def test_of_truths_lists_and_texts_in_a_path(self):
        self.refused(MIXED, [
            (True,), (False,), (True, 0), (1, True), (1, False), (1, True, 0), (3, False, False), (None,), ("0",),
            ("",), (1, "0"), ("1", 0), ([0],), ([],), ([1], 0), (1, [0]), ((0,),), ((1, 0),), (1, (0,)), ({},),
            (1, {}), ({0: 0},), (1, None), (1, 0, None),
        ])
        self.refused((loud(W, W),), [(False,), (0, True), (0, False)])

    def test_of_what_is_no_tuple(self):
        self.refused(MIXED, [
            None, 0, 1, True, False, "", "0", "10", [], [0], [1, 0], {}, {0: 0}, {0: 1, 1: 0}, b"", b"\x00", 10 ** 30,
        ])

    def test_of_anything(self):
        saying = (nested(3),)
        fine = paths_of(saying)
        self.refused(saying, [thing for thing in ANYTHING if not (type(thing) is tuple and thing == (0,))])
        self.assertEqual(fine, paths_of(saying))

    def test_asking_changes_nothing(self):
        paths = [[0], [1, 0], ([0],), ({"a": []},)]
        before = copy.deepcopy(paths)
        self.refused(MIXED, paths)
        self.assertEqual(paths, before)


if __name__ == "__main__":
    unittest.main()
