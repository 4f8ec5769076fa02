"""Promises 26 to 28 once more: long rows of deeds on a door, set beside the document's words."""

import random
import unittest

from doorkinds.bodies import written_as
from doorkinds.doors import Door
from doorkinds.errors import Barred
from doorkinds.papers import first_fault, paper_of
from helping import PAIRS_OF_KINDS, PLAIN, own, told_by
from model import ModelDoor
from samples import CARRIED, PAUSE, PICTURE, W, loud, quote

BARS = (
    (0, ("all", (("says", "no"), ("not", ("asks",))))), (1, ("any", (("longer", 6), ("says", "no")))),
    (0, ("all", (("has", "number"), ("house", "hill")))), (1, ("all", (("from", "+123"), ("asks",)))),
)


class Run:
    """Deeds that a fixed seed gives, done on a door and on the model beside it."""

    def __init__(self, test, kinds, seed, most, bars):
        self.test = test
        self.kinds = kinds
        self.chance = random.Random(seed)
        self.door = Door(*kinds, 2, bars=bars, most=most)
        self.model = ModelDoor(*kinds, 2, bars, most)
        self.names = [PLAIN[kind][:3] + [own(kind, 2, k) for k in range(5)] + [own(kind, 0, 1)] for kind in kinds]
        self.seen = set()
        self.crossed = 0

    def some_name(self, side):
        known = [pair[side] for pair in self.model.pairs]
        if known and self.chance.random() < 0.7:
            return self.chance.choice(known)
        return self.chance.choice(self.names[side])

    def some_saying(self, side):
        carried = CARRIED[self.kinds[side]]
        parts = [W, ("word", "no"), ("number", 3), PAUSE, W, W]
        parts += [("name", self.some_name(side)), ("name", self.some_name(side))] if "name" in carried else []
        parts += [PICTURE] if "picture" in carried else []
        saying = [self.chance.choice(parts) for _ in range(self.chance.randint(0, 3))]
        if "quote" in carried:
            saying.append(quote(self.chance.choice(parts), loud(PICTURE) if "loud" in carried else PAUSE))
        elif "loud" in carried:
            saying.append(loud(self.chance.choice(parts)))
        return tuple(saying[::self.chance.choice([1, -1])][:4])

    def some_thing(self, side):
        chance = self.chance
        asks = [ask for ask in self.model.asks if ask["side"] == side]
        body = written_as(self.kinds[side], self.some_saying(side))
        number = chance.randint(0, 30)
        if asks and chance.random() < 0.5:
            ask = chance.choice(asks)
            sender = ask["asked"] if chance.random() < 0.8 else self.some_name(side)
            receiver = ask["asker"] if chance.random() < 0.8 else self.some_name(side)
            return (number, sender, receiver, ask["under"], chance.random() < 0.5, body)
        if chance.random() < 0.2:
            return (number, self.some_name(side), None, None, False, body)
        answers = chance.choice([None] * 6 + [1, 2])
        return (number, self.some_name(side), self.some_name(side), answers, chance.random() < 0.6, body)

    def come(self):
        side = self.chance.randint(0, 1)
        thing = self.some_thing(side)
        due = self.model.come(side, thing)
        told = told_by(self.door.come, side, thing)
        self.test.assertEqual(told, due)
        self.seen.add(due if isinstance(due, type) else due[0] if due[0] is Barred else "crossed")
        if isinstance(told, tuple) and told[0] is not Barred:
            self.crossed += 1
            paper = paper_of(self.door, side, thing, *told)
            self.test.assertIsNone(first_fault(paper))
            self.test.assertLessEqual(set(paper[5]), set(self.model.pairs))

    def other_deed(self):
        side = self.chance.randint(0, 1)
        deed = self.chance.choice(["let_go", "give_up", "led"])
        arg = self.chance.randint(0, 8) if deed == "give_up" else self.some_name(side)
        due = getattr(self.model, deed)(side, arg)
        self.test.assertEqual(told_by(getattr(self.door, deed), side, arg), due)

    def go(self, many):
        for _ in range(many):
            if self.chance.random() < 0.88:
                self.come()
            else:
                self.other_deed()
            self.test.assertEqual(self.door.pairs(), sorted(self.model.pairs))
            for side in (0, 1):
                self.test.assertEqual(self.door.waiting(side), self.model.waiting(side))


class Runs(unittest.TestCase):
    def test_long_rows_on_each_pair_of_kinds(self):
        seen = set()
        for number, kinds in enumerate(PAIRS_OF_KINDS):
            for most, bars in ((400, ()), (4, BARS), (7, BARS[:2])):
                with self.subTest(kinds=kinds, most=most):
                    run = Run(self, kinds, f"{number} {most}", most, bars)
                    run.go(250)
                    self.assertGreater(run.crossed, 20)
                    seen |= run.seen
        names = {one if one == "crossed" else one.__name__ for one in seen}
        self.assertEqual(names, {"crossed", "Barred", "Again", "Feigned", "NoPair", "Stray", "Full"})

    def test_two_doors_by_turns(self):
        runs = [Run(self, ("letters", "pages"), seed, 5, BARS) for seed in (1, 2)]
        for turn in range(60):
            runs[turn % 2].go(4)


if __name__ == "__main__":
    unittest.main()
