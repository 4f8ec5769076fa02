"""Promises 31, 32 and, of members, 36: what a yard is made of, members, ways, names made known."""

import copy
import inspect
import itertools
import random
import unittest

from doorkinds.errors import Full, Known, NoMember, NoName, NoNet, NoPair, NoWay, NoYard
from doorkinds.pieces import MOST_SIGNS
from doorkinds.yards import Yard
from helping import NO_NETS, PLAIN, many_names, no_names, own, refused, thing_of
from model import ModelYard
from oddities import ANYTHING, DEEP_DICT, DEEP_LIST, DEEP_TUPLE
from samples import KINDS, W

ASKS = (0, ("asks",))
ROW = (("letters", "calls", "pages", "sounds", "letters"), ((0, 1), (1, 2), (2, 3), (3, 4)))


class Plans(unittest.TestCase):
    def no_yard(self, *args, **named):
        with self.subTest(args=args, named=named):
            refused(self, NoYard, Yard, *args, **named)

    def test_one_to_five_nets_of_each_kind(self):
        for many in range(1, 6):
            for kinds in itertools.islice(itertools.product(KINDS, repeat=many), 0, None, 7):
                yard = Yard(kinds, ())
                for net in range(many):
                    self.assertEqual(yard.members(net), [])
                    yard.join(net, PLAIN[kinds[net]][0])
                refused(self, NoNet, yard.members, many)
        self.no_yard((), ())
        self.no_yard(("letters",) * 6, ())

    def test_kinds_that_are_none(self):
        for thing in ["", "letter", "Letters", "letters ", "words", None, 0, True, ["letters"], ("letters",), {},
            DEEP_LIST]:
            self.no_yard((thing,), ())
            self.no_yard(("letters", thing), ())
            self.no_yard((thing, "letters"), ((0, 1),))
        for thing in [
            ["letters"], ["letters", "calls"], "letters", {"letters": 1}, None, 0, True, (), [], {}, *ANYTHING,
        ]:
            if thing != ("letters",):
                self.no_yard(thing, ())

    def test_doors_of_all_pairs(self):
        for many in range(1, 6):
            kinds = tuple(KINDS[at % 4] for at in range(many))
            for pair in itertools.product(range(-1, many + 1), repeat=2):
                if pair[0] != pair[1] and 0 <= min(pair) and max(pair) < many:
                    Yard(kinds, (pair,))
                    Yard(kinds, (pair, pair[::-1], pair))
                else:
                    self.no_yard(kinds, (pair,))
                    if many > 1:
                        self.no_yard(kinds, ((0, 1), pair))

    def test_at_most_seven_doors(self):
        for many in range(8):
            Yard(("letters", "calls"), ((0, 1),) * many)
        for many in (8, 9, 2000):
            self.no_yard(("letters", "calls"), ((0, 1),) * many)

    def test_doors_that_are_none(self):
        kinds = ("letters", "calls", "pages")
        for thing in [
            [0, 1], (0,), (), (0, 1, 2), (0, 1, None), (True, 0), (0, True), (False, 1), (1, False), ("0", "1"),
            (0, "1"),
            (None, 1), (0, None), ([0], 1), "01", None, 0, True, {}, {0: 1}, ((0, 1),), (0, (1,)), (10 ** 30, 0),
            DEEP_LIST, DEEP_TUPLE, DEEP_DICT,
        ]:
            self.no_yard(kinds, (thing,))
            self.no_yard(kinds, ((0, 1), thing))
        for thing in [[], [(0, 1)], {}, {(0, 1): 1}, None, 0, True, "", "01", (0, 1),
            *[x for x in ANYTHING if x != ()]]:
            self.no_yard(kinds, thing)

    def test_bars_none_and_left_out_and_told(self):
        kinds = ("letters", "calls")
        for yard in (Yard(kinds, ((0, 1),)), Yard(kinds, ((0, 1),), bars=None), Yard(kinds, ((0, 1),), bars=((),))):
            yard.join(0, "ann@hill")
            yard.cry(0, "ann@hill", 1, "hi")
            self.assertEqual(yard.come(0, 0), ("cried", [("over", 0, 1, 0)]))
        Yard(kinds, (), bars=())
        Yard(kinds, ((0, 1),) * 7, bars=((), (ASKS,), (ASKS,) * 8, (), (), (), ((1, ("says", "a")),)))

    def test_bars_of_each_door_stop_at_that_door(self):
        bars = ((), ((0, ("says", "no")),), ((1, ("says", "no")),), ((1, ("says", "hi")),))
        yard = Yard(("letters", "calls"), ((0, 1), (0, 1), (1, 0), (0, 1)), bars=bars)
        yard.join(0, "ann@hill")
        yard.cry(0, "ann@hill", 1, "no")
        stopped = [("over", 0, 1, 0), ("stopped", 1, "Barred"), ("stopped", 2, "Barred"), ("over", 3, 1, 1)]
        self.assertEqual(yard.come(0, 0), ("cried", stopped))

    def test_bars_that_are_none(self):
        kinds = ("letters", "calls", "pages")
        doors = ((0, 1), (1, 2))
        for thing in [
            (), ((),), ((), (), ()), [(), ()], ([], ()), ((), []), ((), None), (None, None), ((), ASKS),
            ((), (ASKS[1],)),
            ((), ((2, ("asks",)),)), ((), ((True, ("asks",)),)), ((), ((0, ("asks", 1)),)), ((), (ASKS,) * 9), "", "ab",
            0, True, False, {}, {(): ()}, {0: (), 1: ()}, ((), [ASKS]), DEEP_LIST, DEEP_TUPLE,
        ]:
            self.no_yard(kinds, doors, bars=thing)
        self.no_yard(kinds, (), bars=((),))
        self.no_yard(kinds, (), bars=[])
        self.no_yard(kinds, (), bars=False)

    def test_most(self):
        for most in (1, 2, 40, 199, 200):
            yard = Yard(("letters",), (), most=most)
            yard.join(0, "ann@hill")
            yard.send(0, thing_of("letters", 0, "ann@hill", "ann@hill", *[W] * 60))
            self.assertEqual(len(yard.road(0)), -(-179 // most))
            self.assertEqual(len(yard.road(0)[0][4]), min(most, 179))
        for most in [0, -1, 201, 10 ** 30, True, False, None, "1", [1], (1,), [], (), {}, {1: 1}]:
            self.no_yard(("letters",), (), most=most)

    def test_forty_where_left_out(self):
        self.assertEqual(MOST_SIGNS, 40)
        yard = Yard(("letters",), ())
        yard.join(0, "ann@hill")
        yard.send(0, thing_of("letters", 0, "ann@hill", "ann@hill", *[W] * 14))
        self.assertEqual([len(piece[4]) for piece in yard.road(0)], [40, 1])

    def test_what_the_interface_lists(self):
        told = inspect.signature(Yard).parameters
        self.assertEqual(list(told), ["kinds", "doors", "bars", "most"])
        self.assertEqual((told["bars"].default, told["most"].default), (None, 40))
        for name in ("bars", "most"):
            self.assertEqual(told[name].kind, inspect.Parameter.KEYWORD_ONLY)
        for name in (
            "join", "way", "introduce", "send", "cry", "come", "lose", "double", "bend", "again", "road", "inbox",
            "losses", "broken", "members",
        ):
            self.assertIn(name, vars(Yard))

    def test_what_is_handed_in_stays(self):
        kinds, doors, bars = ["letters", "calls"], [[0, 1]], [[]]
        self.no_yard(kinds, doors, bars=bars)
        self.assertEqual((kinds, doors, bars), (["letters", "calls"], [[0, 1]], [[]]))


class Members(unittest.TestCase):
    def test_put_into_a_net(self):
        yard = Yard(*ROW)
        for net, kind in enumerate(ROW[0]):
            for number, name in enumerate(PLAIN[kind]):
                self.assertIsNone(yard.join(net, name))
                self.assertEqual(yard.members(net), sorted(PLAIN[kind][:number + 1]))
                self.assertEqual(yard.inbox(net, name), [])
        for net, kind in enumerate(ROW[0]):
            for name in PLAIN[kind]:
                refused(self, Known, yard.join, net, name)
            self.assertEqual(yard.members(net), sorted(PLAIN[kind]))

    def test_one_name_in_two_nets_of_a_kind(self):
        yard = Yard(("pages", "pages"), ((0, 1),))
        yard.join(0, "/ann")
        self.assertEqual(yard.members(1), [])
        refused(self, NoMember, yard.inbox, 1, "/ann")
        yard.join(1, "/ann")
        refused(self, Known, yard.join, 1, "/ann")

    def test_own_names_of_doors_0_to_6(self):
        for doors in ((), ((0, 1),), ((0, 1),) * 7):
            for kind in KINDS:
                yard = Yard((kind, "letters"), doors)
                for door in range(7):
                    for k in (0, 1, 7, 26, 399):
                        refused(self, NoName, yard.join, 0, own(kind, door, k))
                self.assertEqual(yard.members(0), [])
        yard = Yard(("calls", "sounds"), ())
        refused(self, NoName, yard.join, 0, "+902400")
        for net, name in ((0, "+902401"), (0, "+9000"), (0, "+970"), (0, "+999"), (1, "g-a"), (1, "g-a-a-a")):
            self.assertIsNone(yard.join(net, name))
        yard = Yard(("letters", "pages"), ())
        for net, name in ((0, "a@doorh"), (0, "a@door"), (0, "doora@doorh"), (0, "zzz@doora"), (1, "/doora"),
            (1, "/doorh/a")):
            self.assertIsNone(yard.join(net, name))

    def test_what_is_no_name(self):
        for kind in KINDS:
            yard = Yard((kind,), ())
            for thing in no_names(kind):
                refused(self, NoName, yard.join, 0, thing)
            self.assertEqual(yard.members(0), [])

    def test_no_net_ahead_of_no_name(self):
        yard = Yard(("letters", "calls"), ())
        yard.join(0, "ann@hill")
        for net in [*NO_NETS, 2]:
            for name in ("ann@hill", "bob@hill", "nobody", None, "a@doora"):
                refused(self, NoNet, yard.join, net, name)
                refused(self, NoNet, yard.inbox, net, name)
            refused(self, NoNet, yard.members, net)
        refused(self, NoName, yard.join, 1, "ann@hill")

    def test_members_is_a_sorted_list_of_the_askers_own(self):
        yard = Yard(("calls",), ())
        names = many_names("calls", 60)
        for name in random.Random(31).sample(names, 60):
            yard.join(0, name)
        told = yard.members(0)
        self.assertEqual(told, names)
        self.assertIs(type(told), list)
        told.clear()
        other = yard.members(0)
        self.assertEqual(other, names)
        yard.join(0, "+999")
        self.assertEqual(other, names)
        self.assertEqual(yard.members(0), [*names, "+999"])

    def test_inboxes_of_what_is_no_member(self):
        yard = Yard(("letters", "calls"), ((0, 1),))
        yard.join(0, "ann@hill")
        for thing in [*ANYTHING, "bob@hill", "+123", "a@doora"]:
            refused(self, NoMember, yard.inbox, 0, thing)
            refused(self, NoMember, yard.inbox, 1, thing)
            refused(self, NoMember, yard.introduce, 0, thing, 1)
            refused(self, NoMember, yard.introduce, 0, thing, 0)


class Ways(unittest.TestCase):
    def all_ways(self, doors, net, other, gone=()):
        """Each list of doors that leads from net to net, no net twice."""
        if net == other:
            return [[]]
        return [
            [door, *way] for door, pair in enumerate(doors) if net in pair
            for beyond in [pair[1 - pair.index(net)]] if beyond not in (*gone, net)
            for way in self.all_ways(doors, beyond, other, (*gone, net))
        ]

    def test_told_ones(self):
        yard = Yard(ROW[0], ((0, 1), (1, 2), (2, 3), (0, 3), (1, 0), (2, 0)))
        for net, other, way in (
            (0, 0, []), (0, 1, [0]), (1, 0, [0]), (0, 2, [5]), (2, 0, [5]), (1, 3, [0, 3]), (3, 1, [2, 1]),
            (0, 4, None),
            (4, 0, None), (4, 4, []), (2, 3, [2]), (3, 2, [2]), (1, 2, [1]),
        ):
            told = yard.way(net, other)
            self.assertEqual(told, way)
            self.assertIn(type(told), (list, type(None)))

    def test_the_shortest_and_the_first_of_such(self):
        chance = random.Random(32)
        for _ in range(150):
            many = chance.randint(2, 5)
            doors = tuple(tuple(chance.sample(range(many), 2)) for _ in range(chance.randint(0, 7)))
            yard = Yard(tuple(chance.choice(KINDS) for _ in range(many)), doors)
            for net, other in itertools.product(range(many), repeat=2):
                ways = self.all_ways(doors, net, other)
                due = min(ways, key=lambda way: (len(way), way)) if ways else None
                self.assertEqual(yard.way(net, other), due)

    def test_rows_and_rings_of_five(self):
        yard = Yard(("letters",) * 5, ((0, 1), (1, 2), (2, 3), (3, 4)))
        self.assertEqual(yard.way(0, 4), [0, 1, 2, 3])
        self.assertEqual(yard.way(4, 0), [3, 2, 1, 0])
        yard = Yard(("letters",) * 5, ((0, 1), (1, 2), (2, 3), (3, 4), (4, 0)))
        self.assertEqual(yard.way(0, 3), [4, 3])
        self.assertEqual(yard.way(0, 2), [0, 1])
        yard = Yard(("letters",) * 4, ((3, 0), (2, 3), (1, 2), (0, 1)))
        self.assertEqual(yard.way(0, 2), [0, 1])
        self.assertEqual(yard.way(2, 0), [1, 0])
        self.assertEqual(yard.way(1, 3), [2, 1])
        self.assertEqual(yard.way(3, 1), [0, 3])

    def test_the_list_is_the_askers_own(self):
        yard = Yard(*ROW)
        told = yard.way(0, 2)
        told.append(9)
        yard.way(1, 1).append(9)
        self.assertEqual((yard.way(0, 2), yard.way(1, 1)), ([0, 1], []))

    def test_no_net(self):
        yard = Yard(("letters", "calls"), ((0, 1),))
        for net in [*NO_NETS, 2]:
            refused(self, NoNet, yard.way, net, 0)
            refused(self, NoNet, yard.way, 0, net)
            refused(self, NoNet, yard.way, net, net)


class Introducing(unittest.TestCase):
    def test_along_a_row(self):
        yard = Yard(*ROW)
        for net, kind in enumerate(ROW[0]):
            yard.join(net, PLAIN[kind][0])
        self.assertEqual(yard.introduce(0, "ann@hill", 0), "ann@hill")
        self.assertEqual(yard.introduce(0, "ann@hill", 4), "a@doord")
        self.assertEqual(yard.introduce(0, "ann@hill", 1), "+900")
        self.assertEqual(yard.introduce(0, "ann@hill", 2), "/doorb/a")
        self.assertEqual(yard.introduce(0, "ann@hill", 3), "g-c-a")
        self.assertEqual(yard.introduce(4, "ann@hill", 0), "a@doora")
        self.assertEqual(yard.introduce(2, "/hill/ann", 4), "b@doord")
        self.assertEqual(yard.introduce(2, "/hill/ann", 0), "b@doora")
        for net, name in ((0, "ann@hill"), (4, "ann@hill"), (2, "/hill/ann")):
            for other in range(5):
                first = yard.introduce(net, name, other)
                self.assertEqual(yard.introduce(net, name, other), first)
        self.assertEqual(yard.introduce(0, "ann@hill", 4), "a@doord")

    def test_over_every_way_of_standing_doors(self):
        for kinds in itertools.product(KINDS, repeat=2):
            for pair in ((0, 1), (1, 0)):
                yard = Yard(kinds, (pair,))
                for k, name in enumerate(PLAIN[kinds[0]]):
                    yard.join(0, name)
                    self.assertEqual(yard.introduce(0, name, 1), own(kinds[1], 0, k))
                    self.assertEqual(yard.introduce(0, name, 0), name)

    def test_along_the_shortest_way_the_first_of_such(self):
        yard = Yard(("letters", "calls", "pages"), ((0, 1), (1, 2), (2, 0), (0, 2)))
        yard.join(0, "ann@hill")
        self.assertEqual(yard.introduce(0, "ann@hill", 2), "/doorc/a")
        self.assertEqual(yard.introduce(0, "ann@hill", 1), "+900")
        yard.join(1, "+123")
        self.assertEqual(yard.introduce(1, "+123", 2), "/doorb/a")
        self.assertEqual(yard.introduce(1, "+123", 0), "a@doora")

    def test_from_the_first_door_that_does_not_know_it(self):
        yard = Yard(*ROW)
        yard.join(0, "ann@hill")
        yard.join(1, "+123")
        self.assertEqual(yard.introduce(1, "+123", 4), "a@doord")
        self.assertEqual(yard.introduce(0, "ann@hill", 1), "+900")
        self.assertEqual(yard.introduce(0, "ann@hill", 3), "g-c-b")
        self.assertEqual(yard.introduce(0, "ann@hill", 4), "b@doord")

    def test_a_name_known_by_what_crossed(self):
        yard = Yard(("letters", "calls", "letters"), ((0, 1), (1, 2)))
        yard.join(0, "ann@hill")
        yard.cry(0, "ann@hill", 1, "")
        yard.come(0, 0)
        self.assertEqual(yard.introduce(0, "ann@hill", 1), "+900")
        yard.come(1, 0)
        self.assertEqual(yard.introduce(0, "ann@hill", 2), "a@doorb")

    def test_refusals_in_their_order(self):
        yard = Yard(("letters", "calls", "pages"), ((0, 1),))
        yard.join(0, "ann@hill")
        yard.join(2, "/bob")
        for net in [*NO_NETS, 3]:
            for name in ("ann@hill", "nobody", None, []):
                refused(self, NoNet, yard.introduce, net, name, 0)
                refused(self, NoNet, yard.introduce, 0, name, net)
                refused(self, NoNet, yard.introduce, net, name, net)
        for thing in [*ANYTHING, "bob@hill", "+123", "/bob"]:
            refused(self, NoMember, yard.introduce, 0, thing, 2)
            refused(self, NoMember, yard.introduce, 0, thing, 1)
            refused(self, NoMember, yard.introduce, 0, thing, 0)
        refused(self, NoWay, yard.introduce, 0, "ann@hill", 2)
        refused(self, NoWay, yard.introduce, 2, "/bob", 1)
        self.assertEqual(yard.introduce(2, "/bob", 2), "/bob")
        self.assertEqual(yard.introduce(0, "ann@hill", 1), "+900")

    def test_a_member_of_another_net_is_none_here(self):
        yard = Yard(("letters", "letters"), ((0, 1),))
        yard.join(1, "ann@hill")
        refused(self, NoMember, yard.introduce, 0, "ann@hill", 1)
        self.assertEqual(yard.introduce(1, "ann@hill", 0), "a@doora")
        refused(self, NoMember, yard.introduce, 0, "a@doora", 1)


class FullDoors(unittest.TestCase):
    def fill(self, yard, kind, net, other, many):
        """Make so many members of the net, which is of this kind, known in another one."""
        for name in many_names(kind, many):
            yard.join(net, name)
            yard.introduce(net, name, other)

    def test_four_hundred_names_over_one_door(self):
        for kinds in (("letters", "calls"), ("sounds", "letters")):
            yard = Yard(kinds, ((0, 1),))
            self.fill(yard, kinds[0], 0, 1, 400)
            yard.join(0, PLAIN[kinds[0]][1])
            yard.join(1, PLAIN[kinds[1]][1])
            refused(self, Full, yard.introduce, 0, PLAIN[kinds[0]][1], 1)
            refused(self, Full, yard.introduce, 1, PLAIN[kinds[1]][1], 0)
            for k, name in enumerate(many_names(kinds[0], 400)):
                self.assertEqual(yard.introduce(0, name, 1), own(kinds[1], 0, k))
            self.assertEqual(yard.introduce(0, PLAIN[kinds[0]][1], 0), PLAIN[kinds[0]][1])

    def test_full_leads_nothing_on_the_doors_ahead(self):
        kinds = ("letters", "calls", "pages")
        yard = Yard(kinds, ((0, 1), (1, 2)))
        self.fill(yard, kinds[1], 1, 2, 400)
        for name in ("ann@hill", "bob@hill", "cy@dale"):
            yard.join(0, name)
        refused(self, Full, yard.introduce, 0, "ann@hill", 2)
        yard.join(1, "+777")
        yard.send(1, thing_of("calls", 1, "+777", "+777"))
        refused(self, NoPair, yard.send, 1, thing_of("calls", 2, "+777", "+900"))
        self.assertEqual(yard.introduce(0, "bob@hill", 1), "+900")
        self.assertEqual(yard.introduce(0, "ann@hill", 1), "+901")
        refused(self, Full, yard.introduce, 0, "ann@hill", 2)
        refused(self, Full, yard.introduce, 0, "cy@dale", 2)
        self.assertEqual(yard.introduce(0, "cy@dale", 1), "+902")

    def test_a_full_door_ahead_that_knows_it_is_no_hindrance(self):
        kinds = ("letters", "calls", "pages")
        yard = Yard(kinds, ((0, 1), (1, 2)))
        self.fill(yard, kinds[0], 0, 1, 400)
        name = many_names("letters", 400)[7]
        self.assertEqual(yard.introduce(0, name, 2), "/doorb/a")
        yard.join(0, "ann@hill")
        refused(self, Full, yard.introduce, 0, "ann@hill", 2)
        refused(self, Full, yard.introduce, 0, "ann@hill", 1)

    def test_the_last_room(self):
        kinds = ("letters", "calls", "pages")
        yard = Yard(kinds, ((0, 1), (1, 2)))
        self.fill(yard, kinds[1], 1, 2, 399)
        yard.join(0, "ann@hill")
        yard.join(0, "bob@hill")
        self.assertEqual(yard.introduce(0, "ann@hill", 2), own("pages", 1, 399))
        self.assertEqual(yard.introduce(0, "ann@hill", 2), own("pages", 1, 399))
        refused(self, Full, yard.introduce, 0, "bob@hill", 2)
        self.assertEqual(yard.introduce(0, "bob@hill", 1), "+901")


class ManyIntroductions(unittest.TestCase):
    def test_beside_the_document_by_random_yards(self):
        for seed in range(40):
            chance = random.Random(seed)
            many = chance.randint(1, 5)
            kinds = tuple(chance.choice(KINDS) for _ in range(many))
            doors = tuple(tuple(chance.sample(range(many), 2)) for _ in range(chance.randint(0, 7) if many > 1 else 0))
            yard, model = Yard(kinds, doors), ModelYard(kinds, doors)
            for net in range(many):
                for name in PLAIN[kinds[net]][:3]:
                    yard.join(net, name)
                    model.members[net][name] = []
            for _ in range(60):
                net, other = chance.randrange(many), chance.randrange(many)
                name = chance.choice(PLAIN[kinds[net]])
                due = model.introduce(net, name, other)
                if isinstance(due, type):
                    refused(self, due, yard.introduce, net, name, other)
                else:
                    self.assertEqual(yard.introduce(net, name, other), due)

    def test_two_yards_by_turns(self):
        one, two = Yard(*ROW), Yard(*ROW)
        one.join(0, "ann@hill")
        refused(self, NoMember, two.introduce, 0, "ann@hill", 1)
        two.join(0, "bob@hill")
        self.assertEqual(two.introduce(0, "bob@hill", 1), "+900")
        self.assertEqual(one.introduce(0, "ann@hill", 4), "a@doord")
        two.join(0, "ann@hill")
        self.assertEqual(two.introduce(0, "ann@hill", 4), "a@doord")
        self.assertEqual(two.introduce(0, "bob@hill", 4), "b@doord")
        self.assertEqual((one.members(0), two.members(0)), (["ann@hill"], ["ann@hill", "bob@hill"]))

    def test_what_is_handed_in_stays(self):
        things = [["ann@hill"], {"a": [1]}, ([],)]
        before = copy.deepcopy(things)
        yard = Yard(*ROW)
        for thing in things:
            refused(self, NoName, yard.join, 0, thing)
            refused(self, NoMember, yard.introduce, 0, thing, 1)
            refused(self, NoNet, yard.way, thing, thing)
        self.assertEqual(things, before)


if __name__ == "__main__":
    unittest.main()
