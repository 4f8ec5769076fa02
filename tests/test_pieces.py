"""Promises 20 to 22: signs, seals, pieces, the Joiner."""

import copy
import inspect
import random
import unittest

from doorkinds.bodies import written_as
from doorkinds.pieces import MOST_SIGNS, Joiner, parted, seal_of
from oddities import ANYTHING, DEEP_DICT, DEEP_LIST, DEEP_TUPLE
from samples import KINDS, some_sayings

BIG = 10 ** 9
BODIES = {
    "letters": "ann@hill < hi there > ; [012/345] { -1234567890 } abcdefgh",
    "calls": ("hi", "quote", "number", "minus", "one", "over", "unquote", "pause", "spell", "o", "n", "e", "over",
    "there"),
    "pages": ("hi there", "<br>", "<b>", "a 1 -2", "</b>", "<a /hill/ann>", "<img 012/345>", "abcdefgh"),
    "sounds": ((1, 1), (1, 1), (1, 1), (2, 1), (6, 1), (7, 2), (7, 1), (5, 1), (5, 1), (0, 1), (1, 1), (6, 1), (6, 2),
    (6, 1)),
}
NONE = {"letters": "", "calls": (), "pages": (), "sounds": ()}


def worth_of(sign):
    """A sign's number, by the document's words."""
    if type(sign) is tuple:
        return 10 * sign[0] + sign[1]
    if len(sign) == 1:
        return ord(sign)
    it = 7
    for letter in sign:
        it = (131 * it + ord(letter)) % 999983
    return it


def sealed(ticket, number, of, signs):
    """A piece with its seal, by the document's words."""
    it = ticket
    for n in [number, of] + [worth_of(sign) for sign in signs]:
        it = (131 * it + n + 7) % 999983
    return (ticket, number, of, it, signs)


class Seals(unittest.TestCase):
    def test_without_signs(self):
        self.assertEqual(seal_of(0, 0, 1, ""), 925)
        self.assertEqual(seal_of(0, 0, 1, ()), 925)
        self.assertEqual(seal_of(1, 0, 1, ()), (131 * (131 * 1 + 0 + 7) + 1 + 7) % 999983)
        self.assertEqual(seal_of(5, 2, 3, ""), (131 * (131 * 5 + 2 + 7) + 3 + 7) % 999983)

    def test_of_letters(self):
        self.assertEqual(seal_of(0, 0, 1, "a"), 131 * 925 + 97 + 7)
        self.assertEqual(seal_of(0, 0, 1, "ab"), (131 * 121279 + 98 + 7) % 999983)
        self.assertEqual(seal_of(0, 0, 1, " "), 131 * 925 + 32 + 7)
        self.assertEqual(seal_of(0, 0, 1, "\n"), 131 * 925 + 10 + 7)
        self.assertEqual(seal_of(0, 0, 1, "~"), 131 * 925 + 126 + 7)

    def test_of_texts_of_no_sign_one_two_three(self):
        self.assertEqual(seal_of(0, 0, 1, ("",)), 131 * 925 + 7 + 7)
        self.assertEqual(seal_of(0, 0, 1, ("a",)), 131 * 925 + 97 + 7)
        self.assertEqual(seal_of(0, 0, 1, ("ab",)), (131 * 925 + ((7 * 131 + 97) * 131 + 98) + 7) % 999983)
        three = (((7 * 131 + 97) * 131 + 98) * 131 + 99) % 999983
        self.assertEqual(seal_of(0, 0, 1, ("abc",)), (131 * 925 + three + 7) % 999983)
        self.assertEqual(seal_of(0, 0, 1, ("", "a")), (131 * (131 * 925 + 14) + 104) % 999983)

    def test_of_sounds(self):
        self.assertEqual(seal_of(0, 0, 1, ((6, 1),)), 131 * 925 + 61 + 7)
        self.assertEqual(seal_of(0, 0, 1, ((0, 0),)), 131 * 925 + 0 + 7)
        self.assertEqual(seal_of(0, 0, 1, ((9, 9),)), 131 * 925 + 99 + 7)
        self.assertEqual(seal_of(0, 0, 1, ((1, 2), (3, 4))), (131 * (131 * 925 + 12 + 7) + 34 + 7) % 999983)

    def test_great_tickets_and_numbers(self):
        for ticket in (0, 1, 999982, 999983, BIG, BIG + 1, 10 ** 30):
            for number, of in ((0, 1), (1, 2), (19999, 20000), (BIG, BIG)):
                for signs in ("", "ab", ("ab",), ("a", "b"), ((0, 1), (7, 2))):
                    told = seal_of(ticket, number, of, signs)
                    self.assertEqual(told, sealed(ticket, number, of, signs)[3])
                    self.assertIs(type(told), int)
                    self.assertTrue(0 <= told < 999983)

    def test_long_texts(self):
        for signs in ("a" * 20000, ("a" * 20000,), ("hi",) * 2000, ((5, 1),) * 2000):
            self.assertEqual(seal_of(3, 1, 2, signs), sealed(3, 1, 2, signs)[3])

    def test_one_text_cut_otherwise(self):
        cuts = [("ab", "c"), ("a", "bc"), ("abc",), ("a", "b", "c"), ("", "abc"), ("abc", ""), ("ab", "", "c")]
        self.assertEqual(len({seal_of(0, 0, 1, signs) for signs in cuts}), len(cuts))
        self.assertEqual(seal_of(0, 0, 1, "abc"), seal_of(0, 0, 1, ("a", "b", "c")))

    def test_each_of_all_that_is_sealed_counts(self):
        told = [
            seal_of(1, 2, 3, ("hi", "a")), seal_of(2, 2, 3, ("hi", "a")), seal_of(1, 1, 3, ("hi", "a")),
            seal_of(1, 2, 4, ("hi", "a")), seal_of(1, 2, 3, ("a", "hi")), seal_of(1, 2, 3, ("hi",)),
            seal_of(1, 2, 3, ("hi", "b")),
        ]
        self.assertEqual(len(set(told)), len(told))


class Parted(unittest.TestCase):
    def test_most_signs(self):
        self.assertEqual(MOST_SIGNS, 40)
        self.assertIs(type(MOST_SIGNS), int)
        self.assertEqual(inspect.signature(parted).parameters["most"].kind, inspect.Parameter.KEYWORD_ONLY)

    def comes_to(self, kind, body, cuts, most):
        for ticket in (0, 7, BIG, 10 ** 20):
            with self.subTest(kind=kind, most=most, ticket=ticket):
                told = parted(kind, ticket, body, most=most)
                self.assertIs(type(told), list)
                self.assertEqual(told, [sealed(ticket, at, len(cuts), signs) for at, signs in enumerate(cuts)])
                for piece in told:
                    self.assertIs(type(piece), tuple)
                    self.assertIs(type(piece[4]), str if kind == "letters" else tuple)
                    self.assertEqual(piece[3], seal_of(piece[0], piece[1], piece[2], piece[4]))

    def test_of_no_signs(self):
        for kind in KINDS:
            for most in (1, 40, 200):
                self.comes_to(kind, NONE[kind], [NONE[kind]], most)

    def test_just_most_one_more_one_less_and_many(self):
        self.comes_to("letters", "abcd", ["abcd"], 4)
        self.comes_to("letters", "abc", ["abc"], 4)
        self.comes_to("letters", "abcde", ["abcd", "e"], 4)
        self.comes_to("letters", "abcdefgh", ["abcd", "efgh"], 4)
        self.comes_to("letters", "abcdefghi", ["abcd", "efgh", "i"], 4)
        self.comes_to("letters", "abc", ["a", "b", "c"], 1)
        self.comes_to("letters", "a" * 200, ["a" * 200], 200)
        self.comes_to("letters", "a" * 201, ["a" * 200, "a"], 200)
        self.comes_to("letters", "a" * 40, ["a" * 40], 40)
        self.comes_to("letters", "a" * 41, ["a" * 40, "a"], 40)
        self.comes_to("calls", ("hi", "a", "b"), [("hi", "a"), ("b",)], 2)
        self.comes_to("pages", ("hi a", "<br>", "b"), [("hi a",), ("<br>",), ("b",)], 1)
        self.comes_to("sounds", ((0, 1), (0, 1), (6, 1), (6, 1)), [((0, 1), (0, 1), (6, 1)), ((6, 1),)], 3)

    def test_forty_where_left_out(self):
        for kind in KINDS:
            body = BODIES[kind] * 9
            self.assertEqual(parted(kind, 3, body), parted(kind, 3, body, most=40))
            self.assertEqual([len(piece[4]) for piece in parted(kind, 3, body)][:-1], [40] * ((len(body) - 1) // 40))

    def test_each_kind_each_most(self):
        for kind in KINDS:
            for most in (1, 2, 3, 5, 13, 14, 15, 39, 40, 41, 199, 200):
                body = BODIES[kind]
                self.comes_to(kind, body, [body[at:at + most] for at in range(0, len(body), most)], most)

    def test_very_many(self):
        told = parted("letters", 1, "ab" * 10000, most=1)
        self.assertEqual(len(told), 20000)
        self.assertEqual(told[19999], sealed(1, 19999, 20000, "b"))
        told = parted("pages", 1, ("a",) * 2000)
        self.assertEqual([piece[:3] for piece in told], [(1, at, 50) for at in range(50)])

    def test_the_list_is_the_askers_own(self):
        for kind in KINDS:
            told = parted(kind, 1, BODIES[kind], most=3)
            again = parted(kind, 1, BODIES[kind], most=3)
            self.assertIsNot(told, again)
            kept = list(again)
            told.clear()
            self.assertEqual(again, kept)
            self.assertEqual(parted(kind, 1, BODIES[kind], most=3), kept)


class Taking(unittest.TestCase):
    def test_in_any_order(self):
        chance = random.Random(5)
        for kind in KINDS:
            for most in (1, 2, 5, 40):
                pieces = parted(kind, 9, BODIES[kind], most=most)
                for _ in range(6):
                    chance.shuffle(pieces)
                    joiner = Joiner(kind, 9)
                    self.assertEqual((len(joiner), joiner.missing(), joiner.whole()), (0, [], None))
                    missing = sorted(piece[1] for piece in pieces)
                    for at, piece in enumerate(pieces):
                        self.assertIs(joiner.whole(), None)
                        self.assertEqual(joiner.take(piece), "new")
                        missing.remove(piece[1])
                        self.assertEqual(joiner.missing(), missing)
                        self.assertEqual(len(joiner), at + 1)
                    self.assertEqual(joiner.whole(), BODIES[kind])
                    self.assertIs(type(joiner.whole()), type(BODIES[kind]))

    def test_of_no_signs(self):
        for kind in KINDS:
            joiner = Joiner(kind, 0)
            self.assertEqual(joiner.take(parted(kind, 0, NONE[kind])[0]), "new")
            self.assertEqual((len(joiner), joiner.missing()), (1, []))
            self.assertEqual(joiner.whole(), NONE[kind])
            self.assertIs(type(joiner.whole()), type(NONE[kind]))

    def test_the_same_twice(self):
        for kind in KINDS:
            pieces = parted(kind, 2, BODIES[kind], most=6)
            joiner = Joiner(kind, 2)
            for piece in pieces:
                self.assertEqual(joiner.take(piece), "new")
                told = (len(joiner), joiner.missing(), joiner.whole())
                self.assertEqual(joiner.take(piece), "known")
                self.assertEqual(joiner.take(copy.deepcopy(piece)), "known")
                self.assertEqual((len(joiner), joiner.missing(), joiner.whole()), told)
            self.assertEqual([joiner.take(piece) for piece in pieces], ["known"] * len(pieces))
            self.assertEqual(joiner.whole(), BODIES[kind])

    def test_sayings_there_and_back(self):
        for kind in KINDS:
            for saying in some_sayings(kind, 20, seed=9):
                body = written_as(kind, saying)
                joiner = Joiner(kind, BIG)
                for piece in parted(kind, BIG, body, most=7)[::-1]:
                    self.assertEqual(joiner.take(piece), "new")
                self.assertEqual(joiner.whole(), body)

    def test_bodies_that_read_as_nothing(self):
        broken = {"letters": "> <", "calls": ("over", ""), "pages": ("", "  "), "sounds": ((9, 9), (0, 0))}
        for kind, body in broken.items():
            joiner = Joiner(kind, 1)
            for piece in parted(kind, 1, body, most=1):
                self.assertEqual(joiner.take(piece), "new")
            self.assertEqual(joiner.whole(), body)

    def test_pieces_of_unlike_lengths(self):
        joiner = Joiner("letters", 4)
        self.assertEqual(joiner.take(sealed(4, 1, 4, "")), "new")
        self.assertEqual(joiner.take(sealed(4, 3, 4, "a" * 500)), "new")
        self.assertEqual(joiner.take(sealed(4, 0, 4, "hi ")), "new")
        self.assertEqual(joiner.missing(), [2])
        self.assertEqual(joiner.take(sealed(4, 2, 4, "b")), "new")
        self.assertEqual(joiner.whole(), "hi b" + "a" * 500)

    def test_two_joiners_by_turns(self):
        for kind in KINDS:
            pieces = parted(kind, 1, BODIES[kind], most=4)
            one, two, three = Joiner(kind, 1), Joiner(kind, 1), Joiner(kind, 2)
            for at, piece in enumerate(pieces):
                self.assertEqual(one.take(piece), "new")
                self.assertEqual((len(one), len(two), len(three)), (at + 1, at, 0))
                self.assertEqual(two.take(pieces[-1 - at]), "new")
                self.assertEqual(three.take(piece), "bent")
            self.assertEqual((one.whole(), two.whole(), three.whole()), (BODIES[kind], BODIES[kind], None))

    def test_the_list_is_the_askers_own(self):
        joiner = Joiner("letters", 1)
        joiner.take(sealed(1, 2, 5, "a"))
        told = joiner.missing()
        again = joiner.missing()
        self.assertIs(type(told), list)
        self.assertIsNot(told, again)
        told.append(9)
        told.remove(0)
        self.assertEqual(again, [0, 1, 3, 4])
        self.assertEqual(joiner.missing(), [0, 1, 3, 4])
        empty = Joiner("letters", 1).missing()
        empty.append(1)
        self.assertEqual(Joiner("letters", 1).missing(), [])
        joiner.take(sealed(1, 0, 5, "b"))
        self.assertEqual(again, [0, 1, 3, 4])

    def test_a_count_of_twenty_thousand(self):
        joiner = Joiner("calls", BIG)
        self.assertEqual(joiner.take(sealed(BIG, 19999, 20000, ("a",))), "new")
        self.assertEqual(joiner.missing(), list(range(19999)))
        self.assertEqual(joiner.take(sealed(BIG, 0, 20000, ("b",))), "new")
        self.assertEqual(joiner.missing(), list(range(1, 19999)))
        self.assertEqual((len(joiner), joiner.whole()), (2, None))
        self.assertEqual(joiner.take(sealed(BIG, 20000, 20000, ("c",))), "bent")
        self.assertEqual(joiner.take(sealed(BIG, 1, 20001, ("c",))), "bent")

    def test_a_great_ticket(self):
        for ticket in (0, BIG, 10 ** 40):
            joiner = Joiner("letters", ticket)
            self.assertEqual(joiner.take(sealed(ticket, 0, 1, "a")), "new")
            self.assertEqual(joiner.take(sealed(ticket + 1, 0, 1, "a")), "bent")


class Bent(unittest.TestCase):
    def setUp(self):
        self.joiners = []
        for kind in KINDS:
            pieces = parted(kind, 5, BODIES[kind], most=4)
            for kept in ([], pieces[1:2], pieces[:1] + pieces[2:], pieces):
                joiner = Joiner(kind, 5)
                for piece in kept:
                    joiner.take(piece)
                self.joiners.append((kind, pieces, kept, joiner))

    def bent(self, joiner, thing):
        """It is bent, and changes nothing."""
        before = (len(joiner), joiner.missing(), joiner.whole())
        self.assertEqual(joiner.take(thing), "bent", thing)
        self.assertEqual((len(joiner), joiner.missing(), joiner.whole()), before)

    def still_fits(self, pieces, kept, joiner):
        for piece in pieces:
            self.assertEqual(joiner.take(piece), "known" if piece in kept else "new")

    def test_another_ticket(self):
        for kind, pieces, kept, joiner in self.joiners:
            for ticket in (0, 4, 6, 5 + 999983, BIG):
                for piece in pieces:
                    self.bent(joiner, sealed(ticket, *piece[1:3], piece[4]))
                    self.bent(joiner, (ticket, *piece[1:]))
            self.still_fits(pieces, kept, joiner)

    def test_another_count(self):
        for kind, pieces, kept, joiner in self.joiners:
            of = len(pieces)
            for other in (of - 1, of + 1, 20000):
                if kept:
                    for number in range(min(of, other)):
                        self.bent(joiner, sealed(5, number, other, pieces[number][4]))
            self.still_fits(pieces, kept, joiner)

    def test_no_count_is_kept_of_what_is_bent(self):
        for kind in KINDS:
            joiner = Joiner(kind, 5)
            self.bent(joiner, (5, 0, 7, 0, NONE[kind]))
            self.bent(joiner, sealed(4, 0, 7, NONE[kind]))
            self.assertEqual(joiner.take(sealed(5, 0, 2, NONE[kind])), "new")
            self.assertEqual(joiner.missing(), [1])

    def test_another_seal(self):
        for kind, pieces, kept, joiner in self.joiners:
            for ticket, number, of, seal, signs in pieces:
                for other in (seal + 1, max(seal - 1, 0), 0, seal + 999983, 10 ** 30):
                    if other != seal:
                        self.bent(joiner, (ticket, number, of, other, signs))
            self.still_fits(pieces, kept, joiner)

    def test_other_signs_under_the_seal(self):
        for kind, pieces, kept, joiner in self.joiners:
            for ticket, number, of, seal, signs in pieces:
                other = "zz" if kind == "letters" else ((0, 0),) if kind == "sounds" else ("zz",)
                self.bent(joiner, (ticket, number, of, seal, other))
                self.bent(joiner, (ticket, number, of, seal, signs[1:]))
                self.bent(joiner, (ticket, number, of, seal, signs + other))
            self.still_fits(pieces, kept, joiner)

    def test_a_number_that_it_kept_with_other_signs(self):
        for kind, pieces, kept, joiner in self.joiners:
            for piece in kept:
                other = "zz" if kind == "letters" else ((0, 0),) if kind == "sounds" else ("zz",)
                for signs in (other, piece[4][1:], piece[4] + other, NONE[kind]):
                    self.bent(joiner, sealed(5, piece[1], len(pieces), signs))
            self.still_fits(pieces, kept, joiner)

    def test_other_signs_of_like_seal(self):
        chance = random.Random(6)
        for kind, draw in (
            ("letters", lambda: "".join(chance.choices("abcdefghij", k=6))),
            ("calls", lambda: tuple(chance.choices("abcdefghij", k=6))),
            ("pages", lambda: ("".join(chance.choices("abcdefghij", k=6)), "a")),
            ("sounds", lambda: tuple((chance.randint(0, 9), chance.randint(0, 9)) for _ in range(5))),
        ):
            found = {}
            other = signs = draw()
            while other == signs:
                other = draw()
                signs = found.setdefault(seal_of(1, 0, 2, other), other)
            self.like_seal(kind, signs, other)

    def like_seal(self, kind, signs, other):
        self.assertEqual(seal_of(1, 0, 2, signs), seal_of(1, 0, 2, other))
        joiner = Joiner(kind, 1)
        self.assertEqual(joiner.take(sealed(1, 0, 2, signs)), "new")
        self.bent(joiner, sealed(1, 0, 2, other))
        self.assertEqual(joiner.take(sealed(1, 1, 2, other)), "new")
        self.assertEqual(joiner.whole(), signs + other)

    def test_things_more_or_less(self):
        for kind, pieces, kept, joiner in self.joiners:
            for piece in pieces:
                for thing in (
                    piece[:4], piece[:3], piece[:1], piece[1:], (), piece + (0,), piece + ("",), piece + (None,),
                    (piece,),
                    (0,) + piece, piece[:4] + (piece[4], piece[4]), list(piece), [piece], {piece: piece},
                    dict(enumerate(piece)),
                ):
                    self.bent(joiner, thing)
            self.still_fits(pieces, kept, joiner)

    def test_truths_and_other_things_for_numbers(self):
        for kind in KINDS:
            signs = BODIES[kind][:2]
            for ticket, number, of in ((0, 0, 1), (1, 0, 1), (0, 1, 2), (1, 1, 2)):
                joiner = Joiner(kind, ticket)
                fine = sealed(ticket, number, of, signs)
                for at in range(4):
                    for thing in (
                        bool(fine[at]), True, False, None, str(fine[at]), [fine[at]], (fine[at],), {}, "", (), [], -1,
                        -fine[at] - 1,
                        b"1", {fine[at]: 1},
                    ):
                        self.bent(joiner, fine[:at] + (thing,) + fine[at + 1:])
                self.assertEqual(joiner.take(fine), "new")

    def test_numbers_below_nought_and_counts_beyond(self):
        for kind in KINDS:
            signs = BODIES[kind][:3]
            joiner = Joiner(kind, 0)
            for number, of in (
                (-1, 1), (-1, 5), (1, 1), (2, 1), (5, 5), (0, 0), (1, 0), (-1, 0), (0, -1), (-2, -1), (-5, -4),
                (0, 20001),
                (20000, 20000), (20000, 20001), (0, BIG), (0, 10 ** 30), (19999, 20001),
            ):
                self.bent(joiner, sealed(0, number, of, signs))
            for ticket in (-1, -999983):
                self.bent(Joiner(kind, ticket), sealed(ticket, 0, 1, signs))
                self.bent(joiner, sealed(ticket, 0, 1, signs))
            self.assertEqual(joiner.take(sealed(0, 19999, 20000, signs)), "new")
            self.assertEqual(Joiner(kind, 0).take(sealed(0, 0, 20000, signs)), "new")
            self.assertEqual(Joiner(kind, 0).take(sealed(0, 0, 1, signs)), "new")

    def test_a_seal_below_nought(self):
        for kind in KINDS:
            piece = sealed(0, 0, 1, NONE[kind])
            self.bent(Joiner(kind, 0), (*piece[:3], piece[3] - 999983, piece[4]))
            self.bent(Joiner(kind, 0), (*piece[:3], -piece[3], piece[4]))

    def test_signs_of_another_kind(self):
        of_texts = [("a",), ("hi", "a"), ("",)]
        of_notes = [((6, 1),), ((0, 1), (0, 1))]
        for kind, others in (
            ("letters", [(), *of_texts, *of_notes]), ("calls", ["", "a", "hi", *of_notes]),
            ("pages", ["", "a", "hi", *of_notes]),
            ("sounds", ["", "a", "hi", *of_texts]),
        ):
            joiner = Joiner(kind, 1)
            for signs in others:
                self.bent(joiner, sealed(1, 0, 1, signs))

    def test_notes_of_ten_and_other_notes(self):
        joiner = Joiner("sounds", 1)
        for note in ((10, 1), (0, 10), (10, 10), (-1, 1), (0, -1), (-1, 10), (1, -10), (BIG, 0)):
            self.bent(joiner, sealed(1, 0, 1, (note,)))
            self.bent(joiner, sealed(1, 0, 1, ((0, 1), note)))
        for note in ((True, 1), (1, True), (False, 1), (0, False)):
            self.bent(joiner, sealed(1, 0, 1, (note,)))
            self.bent(joiner, sealed(1, 0, 1, ((0, 1), note)))
        seal = sealed(1, 0, 1, ((6, 1),))[3]
        for note in (
            [6, 1], (6,), (6, 1, 1), (), None, 61, "61", "a", "", ("6", "1"), (6, None), (None, 1), ([6], 1),
            (6, (1,)), {6: 1}, {}, True,
            ((6, 1),), 0,
        ):
            self.bent(joiner, (1, 0, 1, seal, (note,)))
            self.bent(joiner, (1, 0, 1, seal, ((6, 1), note)))
        self.assertEqual(joiner.take(sealed(1, 0, 3, ((9, 9), (0, 0), (9, 0)))), "new")

    def test_lists_and_others_for_signs(self):
        for kind in KINDS:
            joiner = Joiner(kind, 1)
            signs = BODIES[kind][:2]
            seal = sealed(1, 0, 1, signs)[3]
            for thing in (
                list(signs), [], {}, None, True, False, 0, 1, -1, b"hi", {"a": "b"}, [signs], (signs,),
                (list(signs),), ([],), ({},),
                (None,), (True,), (0,), (1,), DEEP_LIST, DEEP_TUPLE, DEEP_DICT, dict.fromkeys(signs), (b"a",),
            ):
                self.bent(joiner, (1, 0, 1, seal, thing))
                if kind != "letters" and isinstance(thing, tuple):
                    self.bent(joiner, (1, 0, 1, seal, signs + thing))
            self.assertEqual(joiner.take((1, 0, 1, seal, signs)), "new")

    def test_anything(self):
        for kind, pieces, kept, joiner in self.joiners:
            for thing in ANYTHING:
                self.bent(joiner, thing)
                self.bent(joiner, (5, 0, len(pieces), 0, thing))
            self.still_fits(pieces, kept, joiner)

    def test_what_is_taken_stays(self):
        things = [[5, 0, 1, 0, "a"], (5, 0, 1, 0, ["a"]), {"a": [1]}, (5, [0], 1, 0, "")]
        before = copy.deepcopy(things)
        for kind in KINDS:
            joiner = Joiner(kind, 5)
            for thing in things:
                self.bent(joiner, thing)
        self.assertEqual(things, before)


if __name__ == "__main__":
    unittest.main()
