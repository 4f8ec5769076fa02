"""Whole runs on yards (promises 3 and 31 to 36): beside the document's words, and by what is promised of all."""

import itertools
import random
import unittest

from doorkinds.bodies import read_as, written_as
from doorkinds.less import lessened
from doorkinds.yards import Yard
from helping import PLAIN, own, thing_of, told_by
from model import ModelYard, names_of, with_names
from samples import CARRIED, KINDS, PAUSE, PICTURE, W, loud, quote

BARS = ((0, ("all", (("says", "no"), ("longer", 2)))), (1, ("says", "no")), (1, ("all", (("asks",), ("has", "loud")))))


def some_plan(chance):
    """Kinds and doors of two to five nets: a row, a ring, or doors as they fall."""
    many = chance.randint(2, 5)
    kinds = tuple(chance.choice(KINDS) for _ in range(many))
    row = [(at, at + 1) for at in range(many - 1)]
    doors = chance.choice([
        row, row + [(many - 1, 0)], [tuple(chance.sample(range(many), 2)) for _ in range(chance.randint(1, 7))],
    ])
    return kinds, tuple(chance.choice([door, door[::-1]]) for door in doors)


class Run:
    """Deeds that a fixed seed gives, done on a yard and on the model beside it."""

    def __init__(self, test, seed):
        self.test = test
        self.chance = random.Random(seed)
        self.kinds, doors = some_plan(self.chance)
        most = self.chance.choice([1, 3, 10, 40, 200])
        bars = tuple(self.chance.choice([(), (), BARS, BARS[1:]]) for _ in doors)
        self.yard = Yard(self.kinds, doors, bars=bars, most=most)
        self.model = ModelYard(self.kinds, doors, bars, most)
        self.many = len(self.kinds)
        for net, kind in enumerate(self.kinds):
            for name in PLAIN[kind][:2]:
                self.yard.join(net, name)
                self.model.members[net][name] = []
        self.seen = set()

    def both(self, deed, *args):
        due = getattr(self.model, deed)(*args)
        told = told_by(getattr(self.yard, deed), *args)
        self.test.assertEqual(told, due, (deed, args))
        if deed == "come" and isinstance(due, tuple):
            self.seen.add(due[0])
            self.seen |= {one[0] for one in due[1]} if due[0] == "cried" else set()
        return told

    def known_names(self, net):
        known = [
            name for door, pair in enumerate(self.model.ends) if net in pair
            for name in [one[pair.index(net)] for one in self.model.doors[door].pairs]
        ]
        return known + PLAIN[self.kinds[net]][:3] + [own(self.kinds[net], self.chance.randint(0, 6), 0)]

    def some_saying(self, net):
        carried = CARRIED[self.kinds[net]]
        parts = [W, ("word", "no"), ("number", -3), PAUSE, W, W]
        parts += [PICTURE] if "picture" in carried else []
        if "name" in carried:
            parts += [("name", self.chance.choice(self.known_names(net))) for _ in range(2)]
        saying = [self.chance.choice(parts) for _ in range(self.chance.randint(0, 2))]
        groups = [group for first, group in (("loud", loud), ("quote", quote)) if first in carried]
        if groups and self.chance.random() < 0.5:
            inner = self.chance.choice(groups)(self.chance.choice(parts))
            saying.append(self.chance.choice(groups)(inner, self.chance.choice(parts)))
        return tuple(saying)

    def send(self):
        chance = self.chance
        net = chance.randrange(self.many)
        kind = self.kinds[net]
        inboxes = [(name, thing) for name, inbox in self.model.members[net].items() for thing in inbox if thing[4]]
        body = written_as(kind, self.some_saying(net))
        if inboxes and chance.random() < 0.6:
            name, ask = chance.choice(inboxes)
            return self.both("send", net, (chance.randint(0, 90), name, ask[1], ask[0], chance.random() < 0.3, body))
        sender = chance.choice(PLAIN[kind][:2])
        receiver = chance.choice(self.known_names(net))
        answers = chance.choice([None] * 8 + [1])
        return self.both("send", net, (chance.randint(0, 90), sender, receiver, answers, chance.random() < 0.5, body))

    def deed(self):
        chance = self.chance
        net = chance.randrange(self.many)
        road = len(self.model.roads[net])
        deed = chance.choice(["send"] * 4 + ["come"] * 14 + ["cry", "lose", "double", "bend", "again", "introduce"])
        if deed == "send":
            self.send()
        elif deed == "cry":
            name = chance.choice(PLAIN[self.kinds[net]][:3])
            self.both("cry", net, name, chance.randint(0, 90), written_as(self.kinds[net], self.some_saying(net)))
        elif deed == "introduce":
            self.both("introduce", net, chance.choice(PLAIN[self.kinds[net]][:3]), chance.randrange(self.many))
        elif deed == "again":
            self.both("again", net, chance.randint(0, len(self.model.tickets[net])))
        elif deed == "come" and road:
            for _ in range(4):
                self.both("come", net, 0)
        else:
            self.both(deed, net, chance.choice([0, road - 1, road // 2, road]))

    def compare(self):
        for net in range(self.many):
            self.test.assertEqual(self.yard.road(net), self.model.roads[net])
            self.test.assertEqual(self.yard.broken(net), self.model.broken(net))
            for name, inbox in self.model.members[net].items():
                self.test.assertEqual(self.yard.inbox(net, name), inbox)
            for ticket in range(len(self.model.tickets[net])):
                self.test.assertEqual(self.yard.losses(net, ticket), self.model.losses(net, ticket))

    def go(self, many):
        for _ in range(many):
            self.deed()
            self.compare()


class BesideTheWords(unittest.TestCase):
    def test_random_yards(self):
        seen = set()
        for seed in range(60):
            with self.subTest(seed=seed):
                run = Run(self, seed)
                run.go(110)
                seen |= run.seen
        self.assertEqual(seen, {"bent", "known", "new", "inbox", "over", "nobody", "stopped", "cried"})

    def test_two_yards_by_turns(self):
        runs = [Run(self, seed) for seed in (7, 8)]
        for turn in range(60):
            runs[turn % 2].go(3)

    def test_many_deeds_on_one_yard(self):
        for seed in (101, 102):
            Run(self, seed).go(700)


class Promised(unittest.TestCase):
    """What is promised of all yards, on roads where pieces are lost, doubled and bent until nothing is broken."""

    def setting(self, seed):
        """A row or a ring of nets, a member in each known in all the others, and who is known where by what name."""
        self.chance = random.Random(seed)
        many = 2 + seed % 4
        self.kinds = tuple(self.chance.choice(KINDS) for _ in range(many))
        self.doors = tuple((at, at + 1) for at in range(many - 1))
        if seed % 2 and many > 2:
            self.doors += ((many - 1, 0),)
        self.yard = Yard(self.kinds, self.doors, most=self.chance.choice([1, 2, 5, 40]))
        self.people = []
        for net, kind in enumerate(self.kinds):
            for name in PLAIN[kind][:2]:
                self.yard.join(net, name)
                self.people.append((net, name))
        self.names = {
            (person, net): self.yard.introduce(*person, net) for person in self.people for net in range(many)
        }

    def spoil(self, net):
        """Let all on the road of the net come in some order, some of it spoiled, and send again what is broken."""
        chance = self.chance
        told = []
        while self.yard.road(net):
            at = chance.randrange(len(self.yard.road(net)))
            deed = chance.random()
            if deed < 0.1:
                self.yard.lose(net, at)
            elif deed < 0.2:
                self.yard.double(net, at)
            elif deed < 0.3:
                self.yard.bend(net, at)
            else:
                told.append(self.yard.come(net, at))
        for ticket, missing in self.yard.broken(net):
            self.assertEqual(self.yard.again(net, ticket), len(missing))
        return told

    def settle(self):
        """Let all come until nothing is broken, what never came at all sent again; told is what became of all."""
        told = []
        for _ in range(60):
            for net in range(len(self.kinds)):
                told += self.spoil(net)
            for net in range(len(self.kinds)):
                for ticket in range(self.many_tickets(net)):
                    self.yard.again(net, ticket)
            if not any(self.yard.road(net) for net in range(len(self.kinds))):
                self.assertEqual([self.yard.broken(net) for net in range(len(self.kinds))], [[]] * len(self.kinds))
                return told
        self.fail("it does not settle")

    def many_tickets(self, net):
        ticket = 0
        while isinstance(told_by(self.yard.losses, net, ticket), list):
            ticket += 1
        return ticket

    def some_saying(self, kind):
        parts = {
            "word": W, "number": ("number", 12), "pause": PAUSE, "picture": PICTURE, "loud": loud(W, PAUSE),
            "quote": quote(loud(W)) if "loud" in CARRIED[kind] else quote(W), "name": ("name", PLAIN[kind][1]),
        }
        return tuple(parts[self.chance.choice(CARRIED[kind])] for _ in range(self.chance.randint(0, 4)))

    def over(self, saying, net, other):
        """What is left of a saying by the way from net to net, and how many losses there were."""
        many = 0
        for door in self.yard.way(net, other):
            beyond = self.doors[door][1 - self.doors[door].index(net)]
            led = {}
            for name in names_of(saying):
                person = next(one for one in self.people if self.names[(one, net)] == name)
                led[name] = self.names[(person, beyond)]
            saying, losses = lessened(with_names(saying, led), self.kinds[beyond])
            many += len(losses)
            net = beyond
        return saying, many

    def test_each_thing_once_meaning_the_same_but_for_the_losses_and_each_answer_to_its_asker(self):
        for seed in range(24):
            self.setting(seed)
            sent = {}
            for sender, receiver in itertools.product(self.people, repeat=2):
                net, name = sender
                kind = self.kinds[net]
                saying = self.some_saying(kind)
                asks = self.chance.random() < 0.6
                number = 7 * len(sent)
                self.yard.send(net, thing_of(kind, number, name, self.names[(receiver, net)], *saying, asks=asks))
                sent[(sender, receiver)] = (number, saying, asks)
            self.settle()
            self.check_all_came(sent)
            self.check_answers(sent)

    def check_all_came(self, sent):
        for receiver in self.people:
            net, name = receiver
            inbox = self.yard.inbox(net, name)
            self.assertEqual(len(inbox), len(self.people))
            for thing in inbox:
                sender = next(one for one in self.people if self.names[(one, net)] == thing[1])
                number, saying, asks = sent[(sender, receiver)]
                self.assertEqual(thing[2:5], (name, None, asks))
                self.assertEqual(read_as(self.kinds[net], thing[5]), self.over(saying, sender[0], net)[0])
                if sender[0] == net:
                    self.assertEqual(thing[0], number)
            self.assertEqual(len({thing[1] for thing in inbox}), len(self.people))

    def check_answers(self, sent):
        due = []
        for receiver in self.people:
            net, name = receiver
            for thing in self.yard.inbox(net, name):
                if thing[4]:
                    sender = next(one for one in self.people if self.names[(one, net)] == thing[1])
                    due.append((sender, receiver, sent[(sender, receiver)][0]))
                    answer = thing_of(self.kinds[net], 10000 + len(due), name, thing[1], W, answers=thing[0])
                    self.yard.send(net, answer)
        self.settle()
        told = []
        for asker in self.people:
            net, name = asker
            for thing in self.yard.inbox(net, name)[len(self.people):]:
                answerer = next(one for one in self.people if self.names[(one, net)] == thing[1])
                told.append((asker, answerer, thing[3]))
        self.assertEqual(sorted(told), sorted(due))

    def test_names_are_led_one_to_one(self):
        for seed in range(24):
            self.setting(seed)
            for net in range(len(self.kinds)):
                there = [self.names[(person, net)] for person in self.people]
                self.assertEqual(len(set(there)), len(there))
            for person in self.people:
                for net in range(len(self.kinds)):
                    self.assertEqual(self.yard.introduce(*person, net), self.names[(person, net)])

    def test_every_cry_comes_to_each_net_once(self):
        for seed in range(24):
            self.setting(seed)
            cries = []
            for number, (net, name) in enumerate(self.people):
                saying = self.some_saying(self.kinds[net])
                self.yard.cry(net, name, number, written_as(self.kinds[net], saying))
                cries.append((net, name))
            told = self.settle()
            taken = [one for one in told if one[0] == "cried"]
            self.assertFalse([one for one in told if one[0] in ("inbox", "nobody", "stopped", "over")])
            self.assertGreaterEqual(len(taken), len(cries) * len(self.kinds))
            for net, name in self.people:
                inbox = self.yard.inbox(net, name)
                self.assertEqual(len(inbox), len(cries) - 1)
                self.assertEqual({thing[2:5] for thing in inbox}, {(None, None, False)})

    def test_nothing_crosses_a_bar(self):
        for seed in range(12):
            self.setting(seed)
            bars = tuple(((0, ("says", "no")), (1, ("says", "no"))) for _ in self.doors)
            self.yard = Yard(self.kinds, self.doors, bars=bars, most=2)
            for net, name in self.people:
                self.yard.join(net, name)
            for number, (net, name) in enumerate(self.people):
                parts = [("word", "no")] if number % 2 else []
                self.yard.cry(net, name, number, written_as(self.kinds[net], (W, *parts)))
            told = self.settle()
            for one in told:
                if one[0] == "cried":
                    self.assertLessEqual({more[0] for more in one[1]}, {"over", "stopped"})
            for net, name in self.people:
                sayings = [read_as(self.kinds[net], thing[5]) for thing in self.yard.inbox(net, name)]
                first = 1 if name == PLAIN[self.kinds[net]][0] else 0
                self.assertEqual(len([one for one in sayings if len(one) == 2]), first)
                self.assertEqual(len([one for one in sayings if len(one) == 1]), len(self.people) // 2 - first)

    def test_what_is_lost_is_told_door_by_door(self):
        for seed in range(16):
            self.setting(seed)
            for sender in self.people:
                net, name = sender
                receiver = self.chance.choice([one for one in self.people if one[0] != net])
                saying = self.some_saying(self.kinds[net])
                way = self.yard.way(net, receiver[0])
                due = self.over(saying, net, receiver[0])[1]
                self.yard.send(net, thing_of(self.kinds[net], 5, name, self.names[(receiver, net)], *saying))
                many = 0
                at = net
                for door in way:
                    while True:
                        told = self.yard.come(at, 0)
                        if told[0] == "over":
                            break
                        self.assertEqual(told[0], "new")
                    self.assertEqual(told[1], door)
                    at = told[2]
                    many += len(self.yard.losses(at, told[3]))
                while self.yard.road(at):
                    told = self.yard.come(at, 0)
                self.assertEqual(told, ("inbox", receiver[1]))
                self.assertEqual(many, due)


if __name__ == "__main__":
    unittest.main()
