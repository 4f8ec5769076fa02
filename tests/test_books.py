"""Promise 23: books of names."""

import copy
import inspect
import random
import unittest

from doorkinds.books import MOST_PAIRS, Book
from doorkinds.errors import Bound, Feigned, Full, NoName, NoPair, NoSide
from helping import NO_SIDES, OWN, PAIRS_OF_KINDS, PLAIN, many_names, no_names, own, refused
from samples import KINDS

class BookCase(unittest.TestCase):
    def stays(self, book, pairs):
        """The book holds just these pairs, told in every way."""
        self.assertEqual(book.pairs(), sorted(pairs))
        self.assertEqual(len(book), len(pairs))
        for name, other in pairs:
            self.assertEqual(book.led(0, name), other)
            self.assertEqual(book.led(1, other), name)
            self.assertEqual(book.lead(0, name), other)
            self.assertEqual(book.lead(1, other), name)
        self.assertEqual(len(book), len(pairs))


class Fixing(BookCase):
    def test_a_pair_of_plain_names(self):
        for kind, other in PAIRS_OF_KINDS:
            book = Book(kind, other, 0)
            self.stays(book, [])
            pairs = list(zip(PLAIN[kind], PLAIN[other][1:] + PLAIN[other][:1]))
            for number, pair in enumerate(pairs):
                self.assertIsNone(book.fix(*pair))
                self.stays(book, pairs[:number + 1])

    def test_what_is_no_name(self):
        for kind, other in PAIRS_OF_KINDS:
            book = Book(kind, other, 3)
            book.fix(PLAIN[kind][0], PLAIN[other][0])
            for thing in no_names(kind):
                refused(self, NoName, book.fix, thing, PLAIN[other][1])
                refused(self, NoName, book.fix, thing, PLAIN[other][0])
                refused(self, NoName, book.fix, thing, thing)
            for thing in no_names(other):
                refused(self, NoName, book.fix, PLAIN[kind][1], thing)
                refused(self, NoName, book.fix, PLAIN[kind][0], thing)
            self.stays(book, [(PLAIN[kind][0], PLAIN[other][0])])

    def test_own_names_of_the_door_on_either_side(self):
        for kind, other in PAIRS_OF_KINDS:
            for at, door in enumerate((0, 6)):
                book = Book(kind, other, door)
                for name, own_there in zip(OWN[kind][at], OWN[other][at]):
                    refused(self, NoName, book.fix, name, PLAIN[other][0])
                    refused(self, NoName, book.fix, PLAIN[kind][0], own_there)
                    refused(self, NoName, book.fix, name, own_there)
                refused(self, NoName, book.fix, own(kind, door, 399), PLAIN[other][0])
                self.stays(book, [])
                book.lead(0, PLAIN[kind][0])
                book.lead(1, PLAIN[other][0])
                refused(self, NoName, book.fix, PLAIN[kind][1], OWN[other][at][0])
                refused(self, NoName, book.fix, OWN[kind][at][0], PLAIN[other][1])
                self.assertEqual(len(book), 2)

    def test_own_names_of_other_doors_are_plain(self):
        for kind, other in PAIRS_OF_KINDS:
            for door, at in ((0, 1), (6, 0), (3, 0), (3, 1)):
                book = Book(kind, other, door)
                pairs = list(zip(OWN[kind][at], OWN[other][at]))
                for pair in pairs:
                    self.assertIsNone(book.fix(*pair))
                self.stays(book, pairs)

    def test_what_almost_is_an_own_name_is_plain(self):
        for name in ("a@dooraa", "a@door", "door@doorh", "a@hilla"):
            self.assertIsNone(Book("letters", "calls", 0).fix(name, "+123"))
        self.assertIsNone(Book("calls", "calls", 0).fix("+9000", "+90012"))
        self.assertIsNone(Book("calls", "calls", 0).fix("+902401", "+9099999"))
        self.assertIsNone(Book("sounds", "sounds", 0).fix("g-a-a-a", "g-a"))
        refused(self, NoName, Book("calls", "calls", 0).fix, "+902400", "+123")
        refused(self, NoName, Book("calls", "calls", 0).fix, "+123", "+902400")

    def test_a_name_that_stands(self):
        for kind, other in PAIRS_OF_KINDS:
            book = Book(kind, other, 2)
            pairs = list(zip(PLAIN[kind][:2], PLAIN[other][:2]))
            for pair in pairs:
                book.fix(*pair)
            for name, there in (
                (PLAIN[kind][0], PLAIN[other][2]), (PLAIN[kind][2], PLAIN[other][0]),
                (PLAIN[kind][0], PLAIN[other][1]), (PLAIN[kind][1], PLAIN[other][0]),
                (PLAIN[kind][0], PLAIN[other][0]), (PLAIN[kind][1], PLAIN[other][1]),
            ):
                refused(self, Bound, book.fix, name, there)
                self.stays(book, pairs)

    def test_a_name_that_stands_by_being_led(self):
        for kind, other in PAIRS_OF_KINDS:
            book = Book(kind, other, 2)
            book.lead(0, PLAIN[kind][0])
            book.lead(1, PLAIN[other][1])
            refused(self, Bound, book.fix, PLAIN[kind][0], PLAIN[other][2])
            refused(self, Bound, book.fix, PLAIN[kind][2], PLAIN[other][1])
            book.fix(PLAIN[kind][2], PLAIN[other][2])
            self.assertEqual(len(book), 3)

    def test_where_there_are_most_pairs(self):
        for most in (1, 2, 3):
            book = Book("letters", "sounds", 1, most=most)
            pairs = list(zip(PLAIN["letters"], PLAIN["sounds"]))
            for pair in pairs[:most]:
                book.fix(*pair)
            refused(self, Full, book.fix, "new@name", "e-e-e")
            self.stays(book, pairs[:most])

    def test_no_name_ahead_of_bound_ahead_of_full(self):
        book = Book("letters", "calls", 0, most=1)
        book.fix("ann@hill", "+123")
        refused(self, NoName, book.fix, "nobody", "+123")
        refused(self, NoName, book.fix, "ann@hill", "nobody")
        refused(self, NoName, book.fix, "a@doora", "+123")
        refused(self, NoName, book.fix, "ann@hill", "+900")
        refused(self, NoName, book.fix, "bob@hill", "+900")
        refused(self, NoName, book.fix, "nobody", "+456")
        refused(self, Bound, book.fix, "ann@hill", "+123")
        refused(self, Bound, book.fix, "ann@hill", "+456")
        refused(self, Bound, book.fix, "bob@hill", "+123")
        refused(self, Full, book.fix, "bob@hill", "+456")
        self.stays(book, [("ann@hill", "+123")])

    def test_two_kinds_alike_and_one_name_on_either_side(self):
        for kind in KINDS:
            book = Book(kind, kind, 5)
            one, two, three, _ = PLAIN[kind]
            book.fix(one, two)
            book.fix(two, one)
            self.stays(book, [(one, two), (two, one)])
            book.fix(three, three)
            self.assertEqual(book.led(0, three), three)
            self.assertEqual(book.led(1, three), three)
            refused(self, Bound, book.fix, three, three)
            book.let_go(0, one)
            self.stays(book, [(two, one), (three, three)])
            self.assertIsNone(book.led(1, two))


class Leading(BookCase):
    def test_a_new_name_and_one_that_stands(self):
        for kind, other in PAIRS_OF_KINDS:
            for at, door in enumerate((0, 6)):
                book = Book(kind, other, door)
                self.assertEqual(book.lead(0, PLAIN[kind][0]), OWN[other][at][0])
                self.assertEqual(book.lead(0, PLAIN[kind][0]), OWN[other][at][0])
                self.assertEqual(len(book), 1)
                self.assertEqual(book.lead(0, PLAIN[kind][1]), OWN[other][at][1])
                self.assertEqual(book.lead(1, PLAIN[other][0]), OWN[kind][at][0])
                self.assertEqual(book.lead(1, PLAIN[other][1]), OWN[kind][at][1])
                self.assertEqual(book.lead(0, PLAIN[kind][0]), OWN[other][at][0])
                self.assertEqual(len(book), 4)

    def test_an_own_name_that_stands_is_led_back(self):
        for kind, other in PAIRS_OF_KINDS:
            book = Book(kind, other, 0)
            book.lead(0, PLAIN[kind][0])
            book.lead(1, PLAIN[other][1])
            self.assertEqual(book.lead(1, OWN[other][0][0]), PLAIN[kind][0])
            self.assertEqual(book.lead(0, OWN[kind][0][0]), PLAIN[other][1])
            self.assertEqual(len(book), 2)

    def test_an_own_name_that_stands_nowhere(self):
        for kind, other in PAIRS_OF_KINDS:
            book = Book(kind, other, 6, most=1)
            for name in OWN[kind][1]:
                refused(self, Feigned, book.lead, 0, name)
            for name in OWN[other][1]:
                refused(self, Feigned, book.lead, 1, name)
            self.stays(book, [])
            book.lead(0, PLAIN[kind][0])
            for name in OWN[kind][1]:
                refused(self, Feigned, book.lead, 0, name)
            for name in OWN[other][1][1:]:
                refused(self, Feigned, book.lead, 1, name)
            self.stays(book, [(PLAIN[kind][0], OWN[other][1][0])])

    def test_own_names_of_other_doors_are_led_as_plain_ones(self):
        for kind, other in PAIRS_OF_KINDS:
            book = Book(kind, other, 6)
            for k, name in enumerate(OWN[kind][0]):
                self.assertEqual(book.lead(0, name), own(other, 6, k))
            for k, name in enumerate(OWN[other][0]):
                self.assertEqual(book.lead(1, name), own(kind, 6, k))

    def test_the_least_number_that_is_free(self):
        for kind, other in PAIRS_OF_KINDS:
            book = Book(kind, other, 4)
            names = many_names(kind, 40)
            for k, name in enumerate(names[:30]):
                self.assertEqual(book.lead(0, name), own(other, 4, k))
            for k in (11, 3, 28, 29):
                book.let_go(0, names[k])
            self.assertEqual(book.lead(0, names[30]), own(other, 4, 3))
            self.assertEqual(book.lead(0, names[3]), own(other, 4, 11))
            book.let_go(1, own(other, 4, 0))
            self.assertEqual(book.lead(0, names[31]), own(other, 4, 0))
            self.assertEqual(book.lead(0, names[32]), own(other, 4, 28))
            self.assertEqual(book.lead(0, names[33]), own(other, 4, 29))
            self.assertEqual(book.lead(0, names[34]), own(other, 4, 30))

    def test_a_fixed_pair_takes_no_number(self):
        book = Book("letters", "calls", 1)
        book.fix("ann@hill", "+123")
        self.assertEqual(book.lead(0, "ann@hill"), "+123")
        self.assertEqual(book.lead(0, "bob@hill"), "+910")
        self.assertEqual(book.lead(1, "+456"), "a@doorb")

    def test_four_hundred_names_whatever_the_figures(self):
        for kind, other in PAIRS_OF_KINDS:
            book = Book(kind, other, 6)
            told = [book.lead(0, name) for name in many_names(kind, 400)]
            self.assertEqual(told, [own(other, 6, k) for k in range(400)])
            self.assertEqual(len(book), 400)
            refused(self, Full, book.lead, 0, PLAIN[kind][0])
            refused(self, Full, book.lead, 1, PLAIN[other][0])
            self.assertEqual(book.lead(0, many_names(kind, 400)[399]), own(other, 6, 399))
            book.let_go(1, own(other, 6, 0))
            self.assertEqual(book.lead(0, PLAIN[kind][0]), own(other, 6, 0))

    def test_at_most_pairs(self):
        for most in (1, 2, 3):
            for side in (0, 1):
                book = Book("pages", "pages", 0, most=most)
                for name in PLAIN["pages"][:most]:
                    book.lead(side, name)
                for name in PLAIN["pages"][:most]:
                    self.assertIsInstance(book.lead(side, name), str)
                refused(self, Full, book.lead, side, PLAIN["pages"][most])
                refused(self, Full, book.lead, 1 - side, PLAIN["pages"][most])
                self.assertEqual(len(book), most)
                book.let_go(side, PLAIN["pages"][0])
                self.assertEqual(book.lead(side, PLAIN["pages"][most]), "/doora/a")

    def test_refusals_in_their_order(self):
        book = Book("letters", "calls", 0, most=1)
        book.lead(0, "ann@hill")
        refused(self, NoSide, book.lead, 2, "nobody")
        refused(self, NoSide, book.lead, 2, "b@doora")
        refused(self, NoSide, book.lead, 2, "ann@hill")
        refused(self, NoName, book.lead, 1, "b@doora")
        refused(self, NoName, book.lead, 0, "nobody")
        refused(self, Feigned, book.lead, 0, "b@doora")
        refused(self, Feigned, book.lead, 1, "+901")
        refused(self, Full, book.lead, 0, "bob@hill")
        refused(self, Full, book.lead, 1, "+123")
        self.stays(book, [("ann@hill", "+900")])

    def test_sides_and_names_that_are_none(self):
        for kind, other in PAIRS_OF_KINDS:
            book = Book(kind, other, 1)
            book.lead(0, PLAIN[kind][0])
            for call in (book.lead, book.led, book.let_go):
                for side in NO_SIDES:
                    refused(self, NoSide, call, side, PLAIN[kind][0])
                    refused(self, NoSide, call, side, None)
                for thing in no_names(kind):
                    refused(self, NoName, call, 0, thing)
                for thing in no_names(other):
                    refused(self, NoName, call, 1, thing)
            self.stays(book, [(PLAIN[kind][0], own(other, 1, 0))])

    def test_two_kinds_alike(self):
        for kind in KINDS:
            book = Book(kind, kind, 0)
            name = PLAIN[kind][0]
            self.assertEqual(book.lead(0, name), own(kind, 0, 0))
            self.assertIsNone(book.led(1, name))
            self.assertEqual(book.lead(1, name), own(kind, 0, 0))
            self.assertEqual(book.lead(0, own(kind, 0, 0)), name)
            self.assertEqual(book.lead(1, own(kind, 0, 0)), name)
            self.assertEqual(book.pairs(), sorted([(name, own(kind, 0, 0)), (own(kind, 0, 0), name)]))


class AskingAndLettingGo(BookCase):
    def test_led(self):
        for kind, other in PAIRS_OF_KINDS:
            book = Book(kind, other, 0)
            book.fix(PLAIN[kind][0], PLAIN[other][1])
            book.lead(1, PLAIN[other][2])
            self.assertEqual(book.led(0, PLAIN[kind][0]), PLAIN[other][1])
            self.assertEqual(book.led(1, PLAIN[other][1]), PLAIN[kind][0])
            self.assertEqual(book.led(0, OWN[kind][0][0]), PLAIN[other][2])
            self.assertEqual(book.led(1, PLAIN[other][2]), OWN[kind][0][0])
            for side, name in (
                (0, PLAIN[kind][1]), (1, PLAIN[other][0]), (0, OWN[kind][0][1]), (1, OWN[other][0][0]),
                (0, OWN[kind][1][0]),
            ):
                self.assertIsNone(book.led(side, name))
            self.assertEqual(len(book), 2)

    def test_let_go_by_a_name_of_either_side(self):
        for kind, other in PAIRS_OF_KINDS:
            for side in (0, 1):
                book = Book(kind, other, 0)
                pairs = list(zip(PLAIN[kind], PLAIN[other]))
                for pair in pairs:
                    book.fix(*pair)
                self.assertIsNone(book.let_go(side, pairs[1][side]))
                self.stays(book, pairs[:1] + pairs[2:])
                self.assertIsNone(book.led(0, pairs[1][0]))
                self.assertIsNone(book.led(1, pairs[1][1]))
                refused(self, NoPair, book.let_go, 0, pairs[1][0])
                refused(self, NoPair, book.let_go, 1, pairs[1][1])
                self.stays(book, pairs[:1] + pairs[2:])

    def test_let_go_of_what_stands_in_no_pair(self):
        for kind, other in PAIRS_OF_KINDS:
            book = Book(kind, other, 0)
            refused(self, NoPair, book.let_go, 0, PLAIN[kind][0])
            refused(self, NoPair, book.let_go, 1, PLAIN[other][0])
            refused(self, NoPair, book.let_go, 0, OWN[kind][0][0])
            refused(self, NoPair, book.let_go, 1, OWN[other][0][0])

    def test_led_anew_and_fixed_anew(self):
        book = Book("letters", "calls", 0, most=2)
        book.lead(0, "ann@hill")
        book.lead(0, "bob@hill")
        book.let_go(1, "+900")
        refused(self, Feigned, book.lead, 1, "+900")
        self.assertEqual(book.lead(0, "cy@dale"), "+900")
        self.assertEqual(book.led(1, "+900"), "cy@dale")
        book.let_go(0, "bob@hill")
        book.fix("bob@hill", "+123")
        self.assertEqual(book.pairs(), [("bob@hill", "+123"), ("cy@dale", "+900")])

    def test_refusals_in_their_order(self):
        book = Book("letters", "calls", 0)
        for call in (book.led, book.let_go):
            refused(self, NoSide, call, 2, "nobody")
            refused(self, NoSide, call, True, "ann@hill")
            refused(self, NoName, call, 1, "ann@hill")
            refused(self, NoName, call, 0, "+123")


class Telling(BookCase):
    def test_pairs_are_sorted_tuples(self):
        book = Book("letters", "calls", 0)
        pairs = list(zip(many_names("letters", 50), many_names("calls", 50)[::-1]))
        for pair in random.Random(23).sample(pairs, 50):
            book.fix(*pair)
        self.assertEqual(book.pairs(), pairs)
        for pair in book.pairs():
            self.assertIs(type(pair), tuple)

    def test_the_list_is_the_askers_own(self):
        book = Book("letters", "calls", 0)
        self.assertEqual(book.pairs(), [])
        book.lead(0, "ann@hill")
        first = book.pairs()
        second = book.pairs()
        self.assertIsNot(first, second)
        first.append(("bob@hill", "+901"))
        second.clear()
        self.stays(book, [("ann@hill", "+900")])
        third = book.pairs()
        book.lead(0, "bob@hill")
        self.assertEqual(third, [("ann@hill", "+900")])

    def test_most_left_out_and_told(self):
        self.assertEqual(MOST_PAIRS, 400)
        self.assertIs(type(MOST_PAIRS), int)
        told = inspect.signature(Book).parameters
        self.assertEqual(list(told), ["kind", "other", "door", "most"])
        self.assertEqual(told["most"].kind, inspect.Parameter.KEYWORD_ONLY)
        for most in (1, 7, 399, 400):
            book = Book("calls", "sounds", 0, most=most)
            for name in many_names("calls", most):
                book.lead(0, name)
            refused(self, Full, book.lead, 0, "+777")
            self.assertEqual(len(book), most)

    def test_two_books_of_the_same_door_by_turns(self):
        one = Book("letters", "calls", 0)
        two = Book("letters", "calls", 0)
        self.assertEqual(one.lead(0, "ann@hill"), "+900")
        self.assertEqual(two.lead(0, "bob@hill"), "+900")
        self.assertEqual(one.lead(0, "bob@hill"), "+901")
        two.fix("ann@hill", "+123")
        one.let_go(0, "ann@hill")
        self.stays(one, [("bob@hill", "+901")])
        self.stays(two, [("bob@hill", "+900"), ("ann@hill", "+123")])

    def test_what_is_handed_in_stays(self):
        things = [["ann@hill"], {"ann@hill": ["+123"]}, ("ann@hill", [])]
        before = copy.deepcopy(things)
        book = Book("letters", "calls", 0)
        for thing in things:
            refused(self, NoName, book.fix, thing, thing)
            refused(self, NoSide, book.lead, thing, thing)
            refused(self, NoName, book.let_go, 0, thing)
        self.assertEqual(things, before)

    def test_its_own_methods(self):
        for name in ("fix", "lead", "led", "let_go", "pairs", "__len__"):
            self.assertIn(name, vars(Book))


class LongRows(BookCase):
    """Long rows of deeds on a book beside a list of pairs that keeps to the document's words."""

    def setUp(self):
        self.pairs = []

    def told_by_words(self, deed, kinds, most, side, name, other):
        stands = [pair for pair in self.pairs if pair[side] == name]
        owns = [[own(kind, 2, k) for k in range(60)] for kind in kinds]
        if deed == "fix":
            if name in owns[0] or other in owns[1]:
                return NoName
            if any(pair[0] == name or pair[1] == other for pair in self.pairs):
                return Bound
            if len(self.pairs) == most:
                return Full
            return self.pairs.append((name, other))
        if stands:
            if deed == "let_go":
                return self.pairs.remove(stands[0])
            return stands[0][1 - side]
        if deed == "led":
            return None
        if deed == "let_go":
            return NoPair
        if name in owns[side]:
            return Feigned
        if len(self.pairs) == most:
            return Full
        there = [pair[1 - side] for pair in self.pairs]
        new = [one for one in owns[1 - side] if one not in there][0]
        self.pairs.append((name, new) if side == 0 else (new, name))
        return new

    def test_many_rows(self):
        for number, kinds in enumerate(PAIRS_OF_KINDS):
            chance = random.Random(number)
            most = chance.choice([2, 8, 12])
            book = Book(*kinds, 2, most=most)
            self.pairs = []
            names = [PLAIN[kind] + [own(kind, 2, k) for k in range(4)] + OWN[kind][0][:2] for kind in kinds]
            for _ in range(400):
                deed = chance.choice(["fix", "lead", "lead", "led", "let_go"])
                side = 0 if deed == "fix" else chance.randint(0, 1)
                name = chance.choice(names[side])
                other = chance.choice(names[1])
                due = self.told_by_words(deed, kinds, most, side, name, other)
                args = (name, other) if deed == "fix" else (side, name)
                if isinstance(due, type):
                    refused(self, due, getattr(book, deed), *args)
                else:
                    self.assertEqual(getattr(book, deed)(*args), due)
                self.assertEqual(book.pairs(), sorted(self.pairs))
                self.assertEqual(len(book), len(self.pairs))


if __name__ == "__main__":
    unittest.main()
