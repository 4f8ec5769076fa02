"""Promises 33 to 36: roads, what is sent and cried, what comes, inboxes, losses, broken ones, again."""

import copy
import itertools
import unittest

from doorkinds.bodies import written_as
from doorkinds.errors import Again, NoMember, NoNet, NoPair, NoPlace, NoThing, NoTicket
from doorkinds.pieces import parted
from doorkinds.yards import Yard
from helping import NO_NETS, OWN, PAIRS_OF_KINDS, PLAIN, own, refused, thing_of
from oddities import ANYTHING
from samples import KINDS, PAUSE, PICTURE, W, loud, quote


def yard_of(kinds, doors, **named):
    """A yard with the first three plain names of each net's kind as its members."""
    yard = Yard(kinds, doors, **named)
    for net, kind in enumerate(kinds):
        for name in PLAIN[kind][:3]:
            yard.join(net, name)
    return yard


class RoadCase(unittest.TestCase):
    def state(self, yard, many):
        return [
            (yard.road(net), yard.members(net), yard.broken(net), [yard.inbox(net, name) for name in yard.members(net)])
            for net in range(many)
        ]

    def stays(self, yard, many, refusal, call, *args):
        before = self.state(yard, many)
        refused(self, refusal, call, *args)
        self.assertEqual(self.state(yard, many), before)

    def all_come(self, yard, net):
        """Let all on the road of the net come, the eldest ahead, and tell what became of each."""
        told = []
        while yard.road(net):
            told.append(yard.come(net, 0))
        return told


class Sending(RoadCase):
    def test_tickets_from_0_on_by_net_and_pieces_behind_the_road(self):
        for kinds in PAIRS_OF_KINDS:
            yard = yard_of(kinds, ((0, 1),), most=3)
            for net in (0, 1):
                kind = kinds[net]
                ann, bob = PLAIN[kind][:2]
                due = []
                for ticket in range(4):
                    thing = thing_of(kind, 7 + ticket, ann, bob, *[W] * ticket)
                    if ticket % 2:
                        told = yard.cry(net, ann, 7 + ticket, thing[5])
                    else:
                        told = yard.send(net, thing)
                    self.assertEqual(told, ticket)
                    self.assertIs(type(told), int)
                    due += parted(kind, ticket, thing[5], most=3)
                    self.assertEqual(yard.road(net), due)

    def test_a_body_of_no_signs_is_one_piece(self):
        for kind in KINDS:
            yard = yard_of((kind,), ())
            yard.send(0, thing_of(kind, 1, PLAIN[kind][0], PLAIN[kind][1]))
            self.assertEqual(len(yard.road(0)), 1)
            self.assertEqual(yard.come(0, 0), ("inbox", PLAIN[kind][1]))

    def test_to_a_member_oneself_among_them(self):
        for kind in KINDS:
            yard = yard_of((kind,), ())
            for number, (one, two) in enumerate(itertools.product(PLAIN[kind][:3], repeat=2)):
                thing = thing_of(kind, number, one, two, W, answers=5, asks=True)
                self.assertEqual(yard.send(0, thing), number)
                self.assertEqual(yard.come(0, 0), ("inbox", two))
                self.assertEqual(yard.inbox(0, two)[-1], thing)

    def test_no_net(self):
        yard = yard_of(("letters", "calls"), ((0, 1),))
        thing = thing_of("letters", 1, "ann@hill", "bob@hill")
        for net in [*NO_NETS, 2]:
            for held in (thing, None, thing_of("letters", 1, "zz@zz", "bob@hill")):
                self.stays(yard, 2, NoNet, yard.send, net, held)
            self.stays(yard, 2, NoNet, yard.cry, net, "ann@hill", 1, "")
            self.stays(yard, 2, NoNet, yard.cry, net, "ann@hill", -1, None)

    def test_what_is_no_thing_of_the_net_or_a_cry(self):
        for kind in KINDS:
            yard = yard_of((kind,), ())
            ann, bob = PLAIN[kind][:2]
            fine = thing_of(kind, 1, ann, bob)
            wrong = [(at, held) for at, held in ((0, -1), (0, True), (1, "zz"), (1, None), (2, "zz"), (3, -1), (4, 1),
                (5, 0))]
            for thing in [
                *ANYTHING, list(fine), fine[:5], (*fine, None), thing_of(kind, 1, ann, None),
                *[fine[:at] + (held,) + fine[at + 1:] for at, held in wrong],
            ]:
                self.stays(yard, 1, NoThing, yard.send, 0, thing)
            for other in KINDS:
                if other != kind:
                    self.stays(yard, 1, NoThing, yard.send, 0, thing_of(other, 1, *PLAIN[other][:2]))
            self.assertEqual(yard.send(0, fine), 0)

    def test_no_member_of_a_sender(self):
        for kind in KINDS:
            yard = yard_of((kind, kind), ((0, 1),))
            far = yard.introduce(1, PLAIN[kind][0], 0)
            for sender in (PLAIN[kind][3], own(kind, 0, 0), own(kind, 0, 1), far):
                self.stays(yard, 2, NoMember, yard.send, 0, thing_of(kind, 1, sender, PLAIN[kind][0]))
                self.stays(yard, 2, NoMember, yard.send, 0, thing_of(kind, 1, sender, sender))
                self.stays(yard, 2, NoMember, yard.cry, 0, sender, 1, written_as(kind, ()))

    def test_again_by_what_was_sent_or_cried(self):
        for kind in KINDS:
            yard = yard_of((kind, kind), ((0, 1),))
            ann, bob = PLAIN[kind][:2]
            none = written_as(kind, ())
            yard.send(0, thing_of(kind, 1, ann, bob, W))
            yard.cry(0, ann, 2, none)
            for number in (1, 2):
                self.stays(yard, 2, Again, yard.send, 0, thing_of(kind, number, ann, bob, W))
                self.stays(yard, 2, Again, yard.send, 0, thing_of(kind, number, ann, PLAIN[kind][3]))
                self.stays(yard, 2, Again, yard.cry, 0, ann, number, none)
            self.all_come(yard, 0)
            for number in (1, 2):
                self.stays(yard, 2, Again, yard.send, 0, thing_of(kind, number, ann, bob, W))
                self.stays(yard, 2, Again, yard.cry, 0, ann, number, none)
                self.assertIsInstance(yard.send(0, thing_of(kind, number, bob, ann)), int)
                self.assertIsInstance(yard.cry(1, ann, number, none), int)
            self.assertIsInstance(yard.cry(0, ann, 0, none), int)

    def test_a_refused_thing_uses_no_number_and_no_ticket(self):
        yard = yard_of(("letters",), ())
        self.stays(yard, 1, NoPair, yard.send, 0, thing_of("letters", 1, "ann@hill", "zz@zz"))
        self.stays(yard, 1, NoMember, yard.send, 0, thing_of("letters", 1, "zz@zz", "ann@hill"))
        self.stays(yard, 1, NoThing, yard.cry, 0, "ann@hill", 1, "?")
        self.assertEqual(yard.send(0, thing_of("letters", 1, "ann@hill", "bob@hill")), 0)

    def test_no_pair_of_a_receiver(self):
        for kind in KINDS:
            yard = yard_of((kind, kind, kind), ((0, 1), (1, 2), (2, 0)))
            ann = PLAIN[kind][0]
            yard.introduce(0, ann, 1)
            yard.introduce(0, PLAIN[kind][1], 1)
            yard.introduce(1, ann, 2)
            near = yard.introduce(1, PLAIN[kind][1], 0)
            self.assertEqual(near, own(kind, 0, 0))
            for receiver in (
                PLAIN[kind][3], own(kind, 0, 1), own(kind, 1, 0), own(kind, 2, 0), own(kind, 3, 0), own(kind, 6, 0),
            ):
                self.stays(yard, 3, NoPair, yard.send, 0, thing_of(kind, 1, ann, receiver))
            self.assertEqual(yard.send(0, thing_of(kind, 1, ann, near)), 0)
            for receiver in (own(kind, 0, 2), own(kind, 2, 0), own(kind, 1, 0)):
                self.stays(yard, 3, NoPair, yard.send, 1, thing_of(kind, 1, ann, receiver))
            for number, receiver in enumerate((own(kind, 0, 0), own(kind, 0, 1))):
                self.assertEqual(yard.send(1, thing_of(kind, number, ann, receiver)), number)
            self.assertEqual(yard.send(2, thing_of(kind, 1, ann, own(kind, 1, 0))), 0)
            for receiver in (own(kind, 0, 0), own(kind, 2, 0), own(kind, 1, 1)):
                self.stays(yard, 3, NoPair, yard.send, 2, thing_of(kind, 2, ann, receiver))

    def test_a_name_led_here_is_no_receiver(self):
        yard = Yard(("letters", "calls"), ((0, 1),))
        yard.join(0, "ann@hill")
        yard.send(0, thing_of("letters", 1, "ann@hill", "ann@hill"))
        yard.cry(0, "ann@hill", 2, "zz@zz")
        self.assertEqual(self.all_come(yard, 0)[1], ("cried", [("over", 0, 1, 0)]))
        self.stays(yard, 2, NoPair, yard.send, 0, thing_of("letters", 3, "ann@hill", "zz@zz"))

    def test_refusals_in_their_order(self):
        yard = yard_of(("letters", "calls"), ((0, 1),))
        yard.cry(0, "ann@hill", 1, "")
        self.stays(yard, 2, NoThing, yard.send, 0, (1, "zz@zz", "yy@yy", None, False, "?"))
        self.stays(yard, 2, NoThing, yard.send, 0, (1, "zz@zz", None, None, False, ""))
        self.stays(yard, 2, NoMember, yard.send, 0, thing_of("letters", 1, "zz@zz", "yy@yy"))
        self.stays(yard, 2, Again, yard.send, 0, thing_of("letters", 1, "ann@hill", "yy@yy"))
        self.stays(yard, 2, NoPair, yard.send, 0, thing_of("letters", 2, "ann@hill", "yy@yy"))
        self.stays(yard, 2, NoThing, yard.cry, 0, "zz@zz", 1, "?")
        self.stays(yard, 2, NoThing, yard.cry, 0, "ann@hill", 1, "?")
        self.stays(yard, 2, NoMember, yard.cry, 0, "zz@zz", 1, "")
        self.stays(yard, 2, Again, yard.cry, 0, "ann@hill", 1, "")

    def test_what_makes_no_cry(self):
        for kind in KINDS:
            yard = yard_of((kind,), ())
            ann, none = PLAIN[kind][0], written_as(kind, ())
            for thing in ANYTHING:
                if not (type(thing) is int and thing >= 0):
                    self.stays(yard, 1, NoThing, yard.cry, 0, ann, thing, none)
                self.stays(yard, 1, NoThing, yard.cry, 0, thing, 1, none)
                if isinstance(thing, (dict, list, bool)) or thing is None:
                    self.stays(yard, 1, NoThing, yard.cry, 0, ann, 1, thing)
            for other in KINDS:
                if other != kind:
                    self.stays(yard, 1, NoThing, yard.cry, 0, PLAIN[other][0], 1, none)
                    self.stays(yard, 1, NoThing, yard.cry, 0, ann, 1, written_as(other, (W, ("number", 1))))
            self.assertEqual(yard.cry(0, ann, 10 ** 30, none), 0)

    def test_what_is_handed_in_stays(self):
        things = [[1, "ann@hill"], (1, "ann@hill", "bob@hill", None, False, ["hi"]), {"a": [1]}]
        before = copy.deepcopy(things)
        yard = yard_of(("letters",), ())
        for thing in things:
            self.stays(yard, 1, NoThing, yard.send, 0, thing)
            self.stays(yard, 1, NoThing, yard.cry, 0, thing, thing, thing)
            self.stays(yard, 1, NoPlace, yard.come, 0, thing)
            self.stays(yard, 1, NoTicket, yard.again, 0, thing)
        self.assertEqual(things, before)


class Deeds(RoadCase):
    def setUp(self):
        self.yard = yard_of(("letters", "calls"), ((0, 1),), most=2)
        self.yard.send(0, thing_of("letters", 1, "ann@hill", "bob@hill", W, W))
        self.yard.send(0, thing_of("letters", 2, "bob@hill", "ann@hill", ("word", "no")))
        self.road = parted("letters", 0, "hi hi", most=2) + parted("letters", 1, "no", most=2)

    def test_the_road_is_a_list_of_the_askers_own(self):
        told = self.yard.road(0)
        self.assertEqual(told, self.road)
        self.assertIs(type(told), list)
        self.assertIs(type(told[0]), tuple)
        told.clear()
        other = self.yard.road(0)
        self.yard.lose(0, 0)
        self.assertEqual(other, self.road)
        self.assertEqual(self.yard.road(0), self.road[1:])
        self.assertEqual(self.yard.road(1), [])

    def test_lose(self):
        for at in range(4):
            self.setUp()
            self.assertIsNone(self.yard.lose(0, at))
            self.assertEqual(self.yard.road(0), self.road[:at] + self.road[at + 1:])

    def test_double(self):
        for at in range(4):
            self.setUp()
            self.assertIsNone(self.yard.double(0, at))
            self.assertEqual(self.yard.road(0), [*self.road, self.road[at]])

    def test_bend(self):
        for at in range(4):
            self.setUp()
            ticket, number, of, seal, signs = self.road[at]
            for more in (1, 2, 3):
                self.assertIsNone(self.yard.bend(0, at))
                bent = (ticket, number, of, seal + more, signs)
                self.assertEqual(self.yard.road(0), self.road[:at] + [bent] + self.road[at + 1:])

    def test_the_like_of_a_bent_one_is_bent(self):
        self.yard.bend(0, 0)
        self.yard.double(0, 0)
        road = self.yard.road(0)
        self.assertEqual(road[0], road[4])
        self.assertEqual(self.yard.come(0, 4), ("bent", 0))
        self.yard.double(0, 1)
        self.yard.bend(0, 4)
        self.assertEqual(self.yard.come(0, 1), ("new", 0))
        self.assertEqual(self.yard.come(0, 3), ("bent", 0))

    def test_places_that_are_none(self):
        for call in (self.yard.lose, self.yard.double, self.yard.bend, self.yard.come):
            for thing in ANYTHING:
                if type(thing) is not int or not 0 <= thing < 4:
                    self.stays(self.yard, 2, NoPlace, call, 0, thing)
            for at in (4, 5, -1, -4, 10 ** 30, True, False):
                self.stays(self.yard, 2, NoPlace, call, 0, at)
            for at in (0, 1, -1, None, False):
                self.stays(self.yard, 2, NoPlace, call, 1, at)
            for net in [*NO_NETS, 2]:
                self.stays(self.yard, 2, NoNet, call, net, 0)
                self.stays(self.yard, 2, NoNet, call, net, None)

    def test_no_net_of_what_is_told(self):
        for net in [*NO_NETS, 2]:
            for call in (self.yard.road, self.yard.broken, self.yard.members):
                self.stays(self.yard, 2, NoNet, call, net)
            for call in (self.yard.losses, self.yard.again, self.yard.inbox):
                self.stays(self.yard, 2, NoNet, call, net, 0)
                self.stays(self.yard, 2, NoNet, call, net, None)

    def test_a_piece_leaves_the_road_bent_or_known_or_new(self):
        self.yard.double(0, 0)
        self.yard.bend(0, 1)
        road = self.yard.road(0)
        for at, told in ((1, ("bent", 0)), (0, ("new", 0)), (2, ("known", 0)), (0, ("new", 0))):
            self.assertEqual(self.yard.come(0, at), told)
            road.pop(at)
            self.assertEqual(self.yard.road(0), road)


class Coming(RoadCase):
    def test_new_until_whole_in_any_order(self):
        for kind in KINDS:
            ann, bob = PLAIN[kind][:2]
            thing = thing_of(kind, 3, ann, bob, ("word", "abc"), ("number", -12), W, answers=4)
            many = len(parted(kind, 0, thing[5], most=2))
            for order in ([0] * many, list(range(many))[::-1], [at // 2 for at in range(many)][::-1]):
                yard = yard_of((kind,), (), most=2)
                yard.send(0, thing)
                told = [yard.come(0, at) for at in order]
                self.assertEqual(told, [("new", 0)] * (many - 1) + [("inbox", bob)])
                self.assertIs(type(told[-1]), tuple)
                self.assertEqual(yard.inbox(0, bob), [thing])
                self.assertEqual(yard.inbox(0, ann), [])

    def test_known_of_a_piece_that_came_and_of_a_whole_one(self):
        yard = yard_of(("letters",), (), most=2)
        yard.send(0, thing_of("letters", 3, "ann@hill", "bob@hill", W, W))
        for at in (0, 1, 2):
            yard.double(0, at)
        self.assertEqual(yard.come(0, 0), ("new", 0))
        self.assertEqual(yard.come(0, 2), ("known", 0))
        self.assertEqual(yard.come(0, 0), ("new", 0))
        self.assertEqual(yard.come(0, 0), ("inbox", "bob@hill"))
        self.assertEqual(self.all_come(yard, 0), [("known", 0), ("known", 0)])
        self.assertEqual(len(yard.inbox(0, "bob@hill")), 1)

    def test_bent_of_a_whole_one(self):
        yard = yard_of(("sounds",), ())
        yard.send(0, thing_of("sounds", 3, "c-e-g", "a-b", W))
        yard.double(0, 0)
        yard.bend(0, 1)
        self.assertEqual(self.all_come(yard, 0), [("inbox", "a-b"), ("bent", 0)])

    def test_by_tickets(self):
        yard = yard_of(("letters",), (), most=2)
        for number in range(3):
            yard.send(0, thing_of("letters", number, "ann@hill", "bob@hill", ("word", "abc")))
        self.assertEqual([yard.come(0, at) for at in (5, 1, 0, 1, 1, 0)], [
            ("new", 2), ("new", 0), ("inbox", "bob@hill"), ("new", 1), ("inbox", "bob@hill"), ("inbox", "bob@hill"),
        ])
        self.assertEqual([thing[0] for thing in yard.inbox(0, "bob@hill")], [0, 2, 1])

    def test_over_a_door_of_each_pair_of_kinds(self):
        for kinds in PAIRS_OF_KINDS:
            for pair in ((0, 1), (1, 0)):
                yard = yard_of(kinds, (pair,))
                ann, far = PLAIN[kinds[0]][0], PLAIN[kinds[1]][0]
                near = yard.introduce(1, far, 0)
                yard.cry(1, far, 8, written_as(kinds[1], ()))
                yard.send(0, thing_of(kinds[0], 5, ann, near, W, asks=True))
                self.assertEqual(yard.come(0, 0), ("over", 0, 1, 1))
                self.assertEqual(yard.road(1)[1:], parted(kinds[1], 1, written_as(kinds[1], (W,)), most=40))
                self.assertEqual(yard.come(1, 1), ("inbox", far))
                led = yard.introduce(0, ann, 1)
                self.assertEqual(yard.inbox(1, far), [(1, led, far, None, True, written_as(kinds[1], (W,)))])
                yard.send(1, thing_of(kinds[1], 9, far, led, W, answers=1))
                self.assertEqual(yard.come(1, 1), ("over", 0, 0, 1))
                self.assertEqual(yard.come(0, 0), ("inbox", ann))
                self.assertEqual(yard.inbox(0, ann), [(1, near, ann, 5, False, written_as(kinds[0], (W,)))])

    def test_over_two_doors_and_back(self):
        kinds = ("letters", "sounds", "pages")
        yard = yard_of(kinds, ((0, 1), (2, 1)))
        near = yard.introduce(2, "/bob", 0)
        yard.send(0, thing_of("letters", 70, "cy@dale", near, W, quote(W), asks=True))
        self.assertEqual(yard.come(0, 0), ("over", 0, 1, 0))
        self.assertEqual(yard.come(1, 0), ("over", 1, 2, 0))
        self.assertEqual(yard.come(2, 0), ("inbox", "/bob"))
        self.assertEqual(yard.inbox(2, "/bob"), [(1, "/doorb/a", "/bob", None, True, ("hi hi",))])
        self.assertEqual((yard.losses(0, 0), yard.losses(1, 0), yard.losses(2, 0)), ([], [((1,), "quote")], []))
        yard.send(2, thing_of("pages", 3, "/bob", "/doorb/a", ("name", "/a/b/c"), answers=1))
        self.assertEqual(yard.come(2, 0), ("over", 1, 1, 1))
        self.assertEqual(yard.come(1, 0), ("over", 0, 0, 1))
        self.assertEqual(yard.come(0, 0), ("inbox", "cy@dale"))
        self.assertEqual(yard.inbox(0, "cy@dale"), [(1, near, "cy@dale", 70, False, "someone")])
        self.assertEqual((yard.losses(2, 1 - 1), yard.losses(1, 1), yard.losses(0, 1)), ([], [((0,), "name")], []))

    def test_nobody(self):
        yard = yard_of(("letters", "calls", "pages"), ((0, 1), (1, 2)))
        yard.cry(0, "ann@hill", 1, "zz@zz a@doorb a@doorg")
        yard.come(0, 0)
        for number, (led, name) in enumerate((("+901", "zz@zz"), ("+902", "a@doorb"), ("+903", "a@doorg"))):
            yard.send(1, thing_of("calls", number, "+123", led))
            self.assertEqual(yard.come(1, 1), ("over", 0, 0, 1 + number))
            self.assertEqual(yard.come(0, 0), ("nobody", name))
            self.assertEqual(yard.road(0), [])
        yard.join(0, "zz@zz")
        yard.send(1, thing_of("calls", 9, "+123", "+901"))
        yard.come(1, 1)
        self.assertEqual(yard.come(0, 0), ("inbox", "zz@zz"))

    def test_nobody_by_an_own_name_of_another_door_until_it_stands(self):
        yard = yard_of(("letters", "calls", "pages"), ((0, 1), (0, 2)))
        yard.cry(0, "ann@hill", 1, "a@doorb")
        self.assertEqual(yard.come(0, 0), ("cried", [("over", 0, 1, 0), ("stopped", 1, "Feigned")]))
        yard.send(1, thing_of("calls", 1, "+123", "+901"))
        yard.come(1, 1)
        self.assertEqual(yard.come(0, 0), ("nobody", "a@doorb"))
        self.assertEqual(yard.introduce(2, "/bob", 0), "a@doorb")
        yard.send(1, thing_of("calls", 2, "+123", "+901", W))
        yard.come(1, 1)
        self.assertEqual(yard.come(0, 0), ("over", 1, 2, 0))
        self.assertEqual(yard.come(2, 0), ("inbox", "/bob"))
        self.assertEqual(yard.inbox(2, "/bob"), [(1, "/doorb/a", "/bob", None, False, ("hi",))])

    def test_stopped_by_the_class_of_the_refusal(self):
        bars = (((0, ("says", "no")),),)
        yard = yard_of(("letters", "calls"), ((0, 1),), bars=bars)
        near = yard.introduce(1, "+123", 0)
        for number, (parts, answers, word) in enumerate((
            ((("word", "no"),), None, "Barred"), ((("name", "z@doora"),), None, "Feigned"), ((W,), 3, "Stray"),
            ((loud(("word", "no")),), 3, "Barred"),
        )):
            yard.send(0, thing_of("letters", number, "ann@hill", near, *parts, answers=answers))
            self.assertEqual(yard.come(0, 0), ("stopped", 0, word))
            self.assertEqual(yard.road(1), [])
        yard.send(0, thing_of("letters", 9, "ann@hill", near, W))
        self.assertEqual(yard.come(0, 0), ("over", 0, 1, 0))
        self.assertEqual(yard.come(1, 0), ("inbox", "+123"))
        self.assertEqual(yard.inbox(1, "+123")[0][0], 1)

    def test_stopped_where_the_door_is_full(self):
        yard = yard_of(("letters", "calls"), ((0, 1),))
        near = yard.introduce(1, "+123", 0)
        words = [one + two for one in "abcdefghijklmnopqrst" for two in "abcdefghijklmnopqrst"]
        for number in range(8):
            # With the two of ann and of +123 they are just four hundred pairs.
            names = [f"{word}@many" for word in words[number * 50:min(number * 50 + 50, 398)]]
            yard.send(0, thing_of("letters", number, "ann@hill", near, *[("name", name) for name in names]))
            self.assertEqual(self.all_come(yard, 0)[-1], ("over", 0, 1, number))
        yard.send(0, thing_of("letters", 9, "bob@hill", near))
        self.assertEqual(yard.come(0, 0), ("stopped", 0, "Full"))
        yard.send(0, thing_of("letters", 10, "ann@hill", near))
        self.assertEqual(yard.come(0, 0)[0], "over")

    def test_the_inbox_is_a_list_of_the_askers_own_in_the_order_of_coming(self):
        yard = yard_of(("letters",), ())
        for number in (5, 3, 9, 1):
            yard.send(0, thing_of("letters", number, "ann@hill", "bob@hill"))
        for at in (2, 0, 1, 0):
            yard.come(0, at)
        told = yard.inbox(0, "bob@hill")
        self.assertEqual([thing[0] for thing in told], [9, 5, 1, 3])
        self.assertIs(type(told), list)
        self.assertIs(type(told[0]), tuple)
        told.clear()
        other = yard.inbox(0, "bob@hill")
        yard.send(0, thing_of("letters", 6, "ann@hill", "bob@hill"))
        yard.come(0, 0)
        self.assertEqual((len(other), len(yard.inbox(0, "bob@hill"))), (4, 5))
        self.assertEqual(yard.inbox(0, "cy@dale"), [])

    def test_a_body_of_letters_with_more_blanks_stays_in_its_net(self):
        yard = yard_of(("letters",), (), most=1)
        thing = (1, "ann@hill", "bob@hill", None, False, "  hi\n\n<hi>  ")
        yard.send(0, thing)
        self.assertEqual(self.all_come(yard, 0)[-1], ("inbox", "bob@hill"))
        self.assertEqual(yard.inbox(0, "bob@hill"), [thing])


class Crying(RoadCase):
    def cry(self, yard, net, name, number=1, *parts, kind="letters"):
        yard.cry(net, name, number, written_as(kind, parts))

    def test_each_member_but_the_crier_finds_it(self):
        for kind in KINDS:
            yard = yard_of((kind,), ())
            ann, bob, cy = PLAIN[kind][:3]
            self.cry(yard, 0, bob, 1, W, kind=kind)
            self.assertEqual(yard.come(0, 0), ("cried", []))
            thing = (1, bob, None, None, False, written_as(kind, (W,)))
            self.assertEqual([yard.inbox(0, name) for name in (ann, bob, cy)], [[thing], [], [thing]])

    def test_those_who_are_members_when_it_comes(self):
        yard = Yard(("letters",), ())
        yard.join(0, "ann@hill")
        self.cry(yard, 0, "ann@hill")
        yard.join(0, "bob@hill")
        yard.come(0, 0)
        yard.join(0, "cy@dale")
        self.assertEqual((len(yard.inbox(0, "bob@hill")), yard.inbox(0, "cy@dale")), (1, []))

    def test_over_each_door_of_the_net_in_turn(self):
        kinds = ("letters", "calls", "pages", "sounds")
        yard = yard_of(kinds, ((1, 0), (2, 3), (0, 3), (1, 2), (0, 1)))
        self.cry(yard, 0, "ann@hill", 4, W)
        told = yard.come(0, 0)
        self.assertEqual(told, ("cried", [("over", 0, 1, 0), ("over", 2, 3, 0), ("over", 4, 1, 1)]))
        self.assertIs(type(told[1]), list)
        self.assertIs(type(told[1][0]), tuple)
        for net, thing in (
            (1, (1, "+900", None, None, False, ("hi",))), (3,
            (1, "g-c-a", None, None, False, written_as("sounds", (W,)))),
        ):
            self.assertEqual(yard.come(net, 0)[0], "cried")
            for name in yard.members(net):
                self.assertEqual(yard.inbox(net, name), [thing])

    def test_not_back_over_the_door_by_which_it_came(self):
        yard = yard_of(("letters", "calls"), ((0, 1),))
        self.cry(yard, 0, "ann@hill")
        self.assertEqual(yard.come(0, 0), ("cried", [("over", 0, 1, 0)]))
        self.assertEqual(yard.come(1, 0), ("cried", []))
        self.assertEqual((yard.road(0), yard.road(1)), ([], []))
        self.assertEqual([len(yard.inbox(1, name)) for name in yard.members(1)], [1, 1, 1])

    def test_back_over_another_door_it_is_not_taken_again(self):
        yard = yard_of(("letters", "calls"), ((0, 1), (0, 1)))
        self.cry(yard, 0, "ann@hill")
        self.assertEqual(yard.come(0, 0), ("cried", [("over", 0, 1, 0), ("over", 1, 1, 1)]))
        self.assertEqual(yard.come(1, 1), ("cried", [("over", 0, 0, 1)]))
        self.assertEqual(yard.come(1, 0), ("cried", []))
        self.assertEqual(yard.come(0, 0), ("cried", []))
        self.assertEqual([len(yard.inbox(0, name)) for name in yard.members(0)], [0, 1, 1])
        self.assertEqual([len(yard.inbox(1, name)) for name in yard.members(1)], [1, 1, 1])
        self.assertEqual(yard.inbox(1, "+123")[0][1], "+910")

    def test_once_round_a_ring(self):
        for many in range(3, 6):
            kinds = tuple(KINDS[at % 4] for at in range(many))
            yard = yard_of(kinds, tuple((at, (at + 1) % many) for at in range(many)))
            for net in range(many):
                self.cry(yard, net, PLAIN[kinds[net]][0], 50 + net, W, kind=kinds[net])
            for _ in range(4 * many):
                for net in range(many):
                    self.all_come(yard, net)
            for net in range(many):
                self.assertEqual(yard.road(net), [])
                for name in yard.members(net):
                    mine = 1 if name == PLAIN[kinds[net]][0] else 0
                    self.assertEqual(len(yard.inbox(net, name)), many - mine)

    def test_the_criers_own_net_takes_it_when_it_comes_whole_there(self):
        yard = yard_of(("letters", "calls"), ((0, 1),), most=1)
        self.cry(yard, 0, "ann@hill", 1, W)
        self.assertEqual([yard.inbox(0, name) for name in yard.members(0)], [[], [], []])
        self.assertEqual(yard.come(0, 1), ("new", 0))
        self.assertEqual(yard.road(1), [])
        self.assertEqual([yard.inbox(0, name) for name in yard.members(0)], [[], [], []])
        self.assertEqual(yard.come(0, 0), ("cried", [("over", 0, 1, 0)]))
        self.assertEqual([len(yard.inbox(0, name)) for name in yard.members(0)], [0, 1, 1])

    def test_one_name_in_another_net_is_somebody_else(self):
        yard = yard_of(("letters", "letters"), ((0, 1),))
        self.cry(yard, 0, "ann@hill")
        yard.come(0, 0)
        yard.come(1, 0)
        self.assertEqual([len(yard.inbox(1, name)) for name in yard.members(1)], [1, 1, 1])
        self.cry(yard, 1, "ann@hill")
        yard.come(1, 0)
        self.assertEqual(yard.come(0, 0), ("cried", []))
        self.assertEqual([len(yard.inbox(0, name)) for name in yard.members(0)], [1, 2, 2])
        self.assertEqual([len(yard.inbox(1, name)) for name in yard.members(1)], [1, 2, 2])

    def test_a_cry_is_known_by_net_name_and_number(self):
        yard = yard_of(("letters", "letters"), ((0, 1),))
        for net, name, number in (
            (0, "ann@hill", 1), (0, "ann@hill", 2), (0, "bob@hill", 1), (1, "ann@hill", 1), (1, "bob@hill", 1),
        ):
            self.cry(yard, net, name, number)
            told = yard.come(net, 0)
            self.assertEqual(told[1][0][:3], ("over", 0, 1 - net))
            self.assertEqual(yard.come(1 - net, 0), ("cried", []))
        self.assertEqual([len(yard.inbox(0, name)) for name in yard.members(0)], [2 + 1, 4, 5])

    def test_doors_refuse_a_cry_each_for_itself(self):
        bars = ((), ((0, ("from", "ann@hill")),), ((1, ("longer", 0)),))
        yard = yard_of(("letters", "calls", "sounds"), ((0, 1), (0, 1), (2, 0)), bars=bars)
        self.cry(yard, 0, "ann@hill", 1, ("name", "c@doora"))
        told = yard.come(0, 0)
        self.assertEqual(told, ("cried", [("stopped", 0, "Feigned"), ("stopped", 1, "Barred"),
            ("stopped", 2, "Barred")]))
        self.assertEqual([len(yard.inbox(0, name)) for name in yard.members(0)], [0, 1, 1])
        self.cry(yard, 0, "ann@hill", 2)
        self.assertEqual(yard.come(0, 0), ("cried", [("over", 0, 1, 0), ("stopped", 1, "Barred"), ("over", 2, 2, 0)]))

    def test_the_told_list_is_the_askers_own(self):
        yard = yard_of(("letters", "calls"), ((0, 1), (0, 1)))
        self.cry(yard, 0, "ann@hill")
        yard.come(0, 0)[1].clear()
        self.assertEqual(yard.come(1, 0), ("cried", [("over", 1, 0, 1)]))
        yard.come(0, 0)[1].append(0)
        self.assertEqual(yard.come(1, 0), ("cried", []))

    def test_losses_of_a_cry(self):
        yard = yard_of(("letters", "sounds", "letters"), ((0, 1), (0, 2)))
        self.cry(yard, 0, "ann@hill", 1, ("name", "bob@hill"), loud(quote(PICTURE), W))
        yard.come(0, 0)
        self.assertEqual(yard.losses(0, 0), [])
        self.assertEqual(yard.losses(1, 0), [((0,), "name"), ((1, 0), "quote"), ((1, 0, 0), "picture")])
        self.assertEqual(yard.losses(2, 0), [])


class LossesBrokenAgain(RoadCase):
    def test_losses_are_the_askers_own(self):
        yard = yard_of(("letters", "calls"), ((0, 1),))
        yard.cry(0, "ann@hill", 1, "[1]")
        yard.come(0, 0)
        told = yard.losses(1, 0)
        self.assertEqual(told, [((0,), "picture")])
        self.assertIs(type(told), list)
        told.clear()
        yard.losses(0, 0).append(1)
        self.assertEqual((yard.losses(0, 0), yard.losses(1, 0)), ([], [((0,), "picture")]))

    def test_tickets_that_are_none(self):
        yard = yard_of(("letters", "calls"), ((0, 1),))
        for call in (yard.losses, yard.again):
            for thing in [0, *ANYTHING]:
                self.stays(yard, 2, NoTicket, call, 0, thing)
        yard.cry(0, "ann@hill", 1, "[1]")
        yard.cry(0, "ann@hill", 2, "[1]")
        for call in (yard.losses, yard.again):
            for thing in [2, 3, -1, -2, True, False, *ANYTHING]:
                if type(thing) is not int or thing not in (0, 1):
                    self.stays(yard, 2, NoTicket, call, 0, thing)
                self.stays(yard, 2, NoTicket, call, 1, thing)

    def test_broken(self):
        yard = yard_of(("letters", "calls"), ((0, 1),), most=1)
        for number in range(4):
            yard.send(0, thing_of("letters", number, "ann@hill", "bob@hill", ("word", "abcd")))
        self.assertEqual(yard.broken(0), [])
        yard.come(0, 1)
        for _ in range(2):
            yard.lose(0, 0)
        self.assertEqual(yard.broken(0), [])
        yard.lose(0, 0)
        self.assertEqual(yard.broken(0), [(0, [0, 2, 3])])
        for _ in range(4):
            yard.lose(0, 0)
        self.assertEqual(yard.broken(0), [(0, [0, 2, 3])])
        for _ in range(3):
            yard.come(0, 0)
        yard.bend(0, 0)
        self.assertEqual(yard.broken(0), [(0, [0, 2, 3])])
        self.assertEqual(yard.come(0, 0), ("bent", 2))
        self.assertEqual(yard.broken(0), [(0, [0, 2, 3]), (2, [3])])
        self.assertEqual(self.all_come(yard, 0)[-1], ("inbox", "bob@hill"))
        told = yard.broken(0)
        self.assertEqual(told, [(0, [0, 2, 3]), (2, [3])])
        self.assertIs(type(told[0]), tuple)
        self.assertIs(type(told[0][1]), list)
        self.assertEqual(yard.broken(1), [])

    def test_broken_lists_are_the_askers_own(self):
        yard = yard_of(("letters",), (), most=1)
        yard.send(0, thing_of("letters", 1, "ann@hill", "bob@hill", ("word", "abcd")))
        yard.come(0, 0)
        for _ in range(3):
            yard.lose(0, 0)
        told = yard.broken(0)
        told[0][1].clear()
        told.clear()
        other = yard.broken(0)
        self.assertEqual(other, [(0, [1, 2, 3])])
        self.assertIsNot(other[0][1], yard.broken(0)[0][1])
        yard.again(0, 0)
        self.all_come(yard, 0)
        self.assertEqual((other, yard.broken(0)), ([(0, [1, 2, 3])], []))

    def test_a_like_piece_on_the_road_is_one_of_the_ticket(self):
        yard = yard_of(("letters",), (), most=1)
        yard.send(0, thing_of("letters", 1, "ann@hill", "bob@hill", ("word", "ab")))
        yard.double(0, 0)
        yard.lose(0, 1)
        yard.come(0, 0)
        self.assertEqual(yard.broken(0), [])
        self.assertEqual(yard.come(0, 0), ("known", 0))
        self.assertEqual(yard.broken(0), [(0, [1])])

    def test_again_of_those_that_are_missing(self):
        for kind in KINDS:
            yard = yard_of((kind,), (), most=2)
            thing = thing_of(kind, 1, *PLAIN[kind][:2], ("word", "ab"), PAUSE, ("number", 7), PAUSE, W)
            pieces = parted(kind, 0, thing[5], most=2)
            self.assertGreater(len(pieces), 1)
            yard.send(0, thing)
            self.assertEqual(yard.again(0, 0), len(pieces))
            self.assertEqual(yard.road(0), pieces * 2)
            self.assertEqual(yard.come(0, 1), ("new", 0))
            rest = pieces[:1] + pieces[2:]
            self.assertEqual(yard.again(0, 0), len(rest))
            self.assertEqual(yard.road(0), rest + pieces + rest)
            while yard.road(0):
                yard.lose(0, 0)
            self.assertEqual(yard.broken(0), [(0, [at for at in range(len(pieces)) if at != 1])])
            told = yard.again(0, 0)
            self.assertEqual(told, len(rest))
            self.assertIs(type(told), int)
            self.assertEqual(yard.road(0), rest)
            self.assertEqual(self.all_come(yard, 0)[-1], ("inbox", PLAIN[kind][1]))
            self.assertEqual(yard.again(0, 0), 0)
            self.assertEqual(yard.road(0), [])
            self.assertEqual(yard.inbox(0, PLAIN[kind][1]), [thing])

    def test_again_of_all_where_none_came(self):
        yard = yard_of(("letters",), (), most=1)
        yard.send(0, thing_of("letters", 1, "ann@hill", "bob@hill", ("word", "abc")))
        yard.bend(0, 0)
        yard.come(0, 0)
        yard.lose(0, 0)
        yard.lose(0, 0)
        self.assertEqual(yard.broken(0), [])
        self.assertEqual(yard.again(0, 0), 3)
        self.assertEqual(yard.road(0), parted("letters", 0, "abc", most=1))

    def test_again_of_what_came_over_a_door(self):
        yard = yard_of(("letters", "calls"), ((0, 1),), most=1)
        yard.cry(0, "ann@hill", 1, "a [1] b c")
        self.all_come(yard, 0)
        yard.come(1, 2)
        yard.lose(1, 0)
        yard.lose(1, 0)
        self.assertEqual(yard.broken(1), [(0, [0, 1])])
        self.assertEqual(yard.again(1, 0), 2)
        self.assertEqual(yard.broken(1), [])
        self.assertEqual([told[0] for told in self.all_come(yard, 1)], ["new", "cried"])
        self.assertEqual(yard.inbox(1, "+123"), [(1, "+900", None, None, False, ("a", "b", "c"))])
        self.assertEqual(yard.losses(1, 0), [((1,), "picture")])


class ManyPieces(RoadCase):
    def test_a_long_body_by_single_signs(self):
        yard = yard_of(("letters",), (), most=1)
        body = "hi" + " " * 19000
        yard.send(0, (1, "ann@hill", "bob@hill", None, False, body))
        self.assertEqual(len(yard.road(0)), 19002)
        self.assertEqual(yard.come(0, 19001), ("new", 0))
        self.assertEqual(yard.again(0, 0), 19001)
        self.assertEqual(yard.broken(0), [])

    def test_two_yards_by_turns(self):
        one, two = [yard_of(("letters", "calls"), ((0, 1),)) for _ in range(2)]
        one.send(0, thing_of("letters", 1, "ann@hill", "bob@hill"))
        self.assertEqual(two.road(0), [])
        self.assertEqual(two.cry(0, "ann@hill", 1, ""), 0)
        self.assertEqual(two.come(0, 0), ("cried", [("over", 0, 1, 0)]))
        self.assertEqual(one.come(0, 0), ("inbox", "bob@hill"))
        self.assertEqual((one.road(1), len(two.road(1))), ([], 1))
        self.assertEqual((len(one.inbox(0, "bob@hill")), len(two.inbox(0, "bob@hill"))), (1, 1))
        self.assertEqual((one.inbox(0, "cy@dale"), len(two.inbox(0, "cy@dale"))), ([], 1))
        near = one.introduce(1, "+123", 0)
        self.stays(two, 2, NoPair, two.send, 0, thing_of("letters", 2, "ann@hill", near))
        self.assertEqual(OWN["letters"][0][0], near)


if __name__ == "__main__":
    unittest.main()
