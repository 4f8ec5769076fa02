"""Promises 29 and 30: papers of crossings and their first fault."""

import copy
import itertools
import random
import unittest

from doorkinds.bodies import read_as, written_as
from doorkinds.doors import Door
from doorkinds.papers import first_fault, is_paper, paper_of
from helping import PAIRS_OF_KINDS, PLAIN, own, thing_of
from oddities import ANYTHING, DEEP_DICT, DEEP_LIST, DEEP_TUPLE, NO_TEXTS
from samples import CARRIED, KINDS, PAUSE, PICTURE, W, loud, quote

ORDER = ["form", "came", "told", "names", "sender", "receiver", "asks", "answers", "losses", "says", "more"]


def crossed(kinds, side, *parts, receiver=True, asks=False, answers=False):
    """The paper of a thing that crossed, to a receiver or as a cry, as an answer or not."""
    kind, other = kinds[side], kinds[1 - side]
    door = Door(*kinds, 3)
    ann, far = PLAIN[kind][0], PLAIN[other][0]
    near = door.lead(1 - side, far)
    door.lead(side, PLAIN[kind][3])
    under = None
    if answers:
        led = door.lead(side, ann)
        under = door.come(1 - side, thing_of(other, 6, far, led, asks=True))[0][0]
    thing = thing_of(kind, 9, ann, near if receiver else None, *parts, answers=under, asks=asks)
    told, losses = door.come(side, thing)
    return paper_of(door, side, thing, told, losses)


def names_within(kind):
    """Two names as parts, where the kind carries names; else two words."""
    if "name" in CARRIED[kind]:
        return [("name", PLAIN[kind][1]), ("name", PLAIN[kind][2])]
    return [W, ("word", "ho")]


def some_papers():
    """Right papers of each pair of kinds and both sides."""
    for kinds in PAIRS_OF_KINDS:
        for side in (0, 1):
            one, two = names_within(kinds[side])
            group = "quote" if "quote" in CARRIED[kinds[side]] else "loud"
            saying = (two, W, (group, (one, PAUSE, two)))
            yield crossed(kinds, side, *saying)
            yield crossed(kinds, side, *saying, receiver=False)
            yield crossed(kinds, side, one, asks=True)
            yield crossed(kinds, side, answers=True)


def put(row, at, held):
    """The tuple with something else at a place."""
    return (*row[:at], held, *row[at + 1:])


def thing_put(paper, which, at, held):
    """The paper with something else at a place of what came (2) or what was put out (3)."""
    return put(paper, which, put(paper[which], at, held))


class Made(unittest.TestCase):
    def test_the_tuple_of_six(self):
        for kinds in PAIRS_OF_KINDS:
            for side in (0, 1):
                kind, other = kinds[side], kinds[1 - side]
                door = Door(*kinds, 3)
                ann, bob, cy = PLAIN[kind][:3]
                near = door.lead(1 - side, PLAIN[other][0])
                door.lead(side, cy)
                saying = (W, ("name", bob), ("name", ann), ("name", bob)) if "name" in CARRIED[kind] else (W, W)
                thing = thing_of(kind, 9, ann, near, *saying, asks=True)
                told, losses = door.come(side, thing)
                paper = paper_of(door, side, thing, told, losses)
                pairs = [(ann, own(other, 3, 1)), (near, PLAIN[other][0])]
                if "name" in CARRIED[kind] and "name" in CARRIED[other]:
                    pairs.append((bob, own(other, 3, 2)))
                if side == 1:
                    pairs = [(two, one) for one, two in pairs]
                self.assertEqual(paper, (kinds, side, thing, told, losses, sorted(pairs)))
                self.assertIs(type(paper), tuple)
                self.assertIs(type(paper[0]), tuple)
                self.assertIs(type(paper[4]), list)
                self.assertIs(type(paper[5]), list)
                for pair in paper[5]:
                    self.assertIs(type(pair), tuple)
                self.assertIsNone(first_fault(paper))

    def test_without_a_receiver(self):
        for kinds in PAIRS_OF_KINDS:
            for side in (0, 1):
                paper = crossed(kinds, side, W, receiver=False)
                self.assertEqual(len(paper[5]), 1)
                self.assertEqual(paper[5][0][side], PLAIN[kinds[side]][0])
                self.assertEqual(len(crossed(kinds, side, W)[5]), 2)

    def test_names_that_the_other_kind_does_not_carry_are_left_out(self):
        for kind in ("letters", "calls", "pages"):
            rows = [("name", name) for name in PLAIN[kind][:3]]
            for other in KINDS:
                paper = crossed((kind, other), 0, *rows)
                self.assertEqual(len(paper[5]), 4 if "name" in CARRIED[other] else 2)

    def test_each_pair_once(self):
        ann = ("name", PLAIN["letters"][0])
        door = Door("letters", "pages", 0)
        near = door.lead(1, "/bob")
        thing = thing_of("letters", 1, "ann@hill", near, ann, ("name", near), loud(ann, ann), ("name", near))
        told, losses = door.come(0, thing)
        self.assertEqual(paper_of(door, 0, thing, told, losses)[5], [(near, "/bob"), ("ann@hill", "/doora/a")])
        thing = thing_of("letters", 2, "ann@hill", "ann@hill", ann)
        told, losses = door.come(0, thing)
        self.assertEqual(paper_of(door, 0, thing, told, losses)[5], [("ann@hill", "/doora/a")])

    def test_pairs_are_sorted_by_side_0_whatever_the_side(self):
        door = Door("pages", "letters", 0)
        door.fix("/z", "ann@hill")
        door.fix("/m", "bob@hill")
        door.fix("/a", "cy@dale")
        thing = thing_of("letters", 1, "ann@hill", "bob@hill", ("name", "cy@dale"))
        told, losses = door.come(1, thing)
        pairs = [("/a", "cy@dale"), ("/m", "bob@hill"), ("/z", "ann@hill")]
        self.assertEqual(paper_of(door, 1, thing, told, losses)[5], pairs)

    def test_the_lists_are_the_askers_own(self):
        door = Door("letters", "calls", 0)
        thing = thing_of("letters", 1, "ann@hill", None, PICTURE)
        told, losses = door.come(0, thing)
        one = paper_of(door, 0, thing, told, losses)
        two = paper_of(door, 0, thing, told, losses)
        self.assertEqual(one, two)
        self.assertIsNot(one[4], two[4])
        self.assertIsNot(one[4], losses)
        self.assertIsNot(one[5], two[5])
        one[4].clear()
        one[5].clear()
        self.assertEqual(losses, [((0,), "picture")])
        losses.clear()
        self.assertEqual(two[4:], ([((0,), "picture")], [("ann@hill", "+900")]))
        door.come(0, thing_of("letters", 2, "bob@hill", None))
        self.assertEqual(two[4:], ([((0,), "picture")], [("ann@hill", "+900")]))
        self.assertEqual(len(door.pairs()), 2)


class Faults(unittest.TestCase):
    def fault(self, paper, word):
        due = None if word is None else (word,)
        told = first_fault(paper)
        self.assertEqual(told, due, paper)
        self.assertIs(is_paper(paper), word is None)
        if told is not None:
            self.assertIs(type(told), tuple)

    def test_right_papers(self):
        for paper in some_papers():
            self.fault(paper, None)

    def test_anything(self):
        for thing in ANYTHING:
            self.fault(thing, "form")
            self.fault((thing,) * 6, "form")
        for thing in (DEEP_LIST, DEEP_DICT, DEEP_TUPLE):
            self.fault(thing, "form")

    def test_six_of_a_tuple(self):
        for paper in some_papers():
            for at in range(6):
                self.fault(paper[:at], "form")
                self.fault(paper[:at] + paper[at + 1:], "form")
            for more in (None, [], (), 0):
                self.fault((*paper, more), "form")
                self.fault((more, *paper), "form")
            self.fault(list(paper), "form")
            self.fault([paper], "form")
            self.fault((paper,), "form")
            self.fault(dict(enumerate(paper)), "form")
            break

    def test_the_form_of_kinds(self):
        for paper in itertools.islice(some_papers(), 0, None, 5):
            kinds = paper[0]
            for thing in [
                list(kinds), kinds[:1], kinds[1:], (), (*kinds, kinds[0]), (kinds[0], "words"), ("", kinds[1]),
                (kinds[0], None), (None, kinds[1]), (kinds[0], [kinds[1]]), ([], {}), (kinds,), kinds[0], (0, 1),
                (kinds[0], "Letters"), dict.fromkeys(kinds), "ab", *ANYTHING,
            ]:
                self.fault(put(paper, 0, thing), "form")
                self.fault(put(put(paper, 0, thing), 2, None), "form")

    def test_the_form_of_the_side(self):
        for paper in itertools.islice(some_papers(), 0, None, 5):
            for thing in [True, False, -1, 2, "0", "1", "", None, [], [0], (0,), {}, 10 ** 30, DEEP_LIST]:
                self.fault(put(paper, 1, thing), "form")

    def test_the_form_of_losses(self):
        for paper in itertools.islice(some_papers(), 0, None, 5):
            for held in [
                ((0,), "name", 0), ((0,),), (), ((0,), None), ((0,), 0), ((0,), ["name"]), ([0], "name"), (0, "name"),
                (None, "name"), ("0", "name"), ((True,), "name"), ((0, False), "name"), (("0",), "name"),
                ((None,), "name"), ((0, (1,)), "name"), (([],), "name"), (("name"), (0,)), [(0,), "name"], "ab", None,
                0,
                {}, {(0,): "name"}, ((0,), True), ((0,), DEEP_LIST), (DEEP_TUPLE, "name"),
            ]:
                self.fault(put(paper, 4, [held]), "form")
                self.fault(put(paper, 4, [*paper[4], held]), "form")
            for thing in [tuple(paper[4]), (), {}, None, "", "ab", 0, True, (((0,), "name"),), DEEP_TUPLE, DEEP_DICT]:
                self.fault(put(paper, 4, thing), "form")

    def test_losses_of_a_form_that_only_are_not_those(self):
        for paper in itertools.islice(some_papers(), 0, None, 5):
            for held in [((), ""), ((), "name"), ((-1,), "x"), ((10 ** 30, 0), "name"), ((0, 1, 2, 3, 4, 5), "loud")]:
                self.fault(put(paper, 4, [held]), "losses")
                self.fault(put(paper, 4, [*paper[4], held]), "losses")

    def test_the_form_of_pairs(self):
        for paper in itertools.islice(some_papers(), 0, None, 5):
            for held in [
                ("a",), (), ("a", "b", "c"), ["a", "b"], ("a", None), (None, "b"), ("a", 0), (0, "b"), ("a", ["b"]),
                (["a"], "b"), "ab", None, 0, {}, {"a": "b"}, (True, "b"), ("a", ("b",)), DEEP_TUPLE, DEEP_LIST,
            ]:
                self.fault(put(paper, 5, [held]), "form")
                self.fault(put(paper, 5, [*paper[5], held]), "form")
                self.fault(put(paper, 5, [held, *paper[5]]), "form")
            for thing in [tuple(paper[5]), (), {}, dict(paper[5]), None, "", "ab", 0, True, DEEP_TUPLE, DEEP_DICT]:
                self.fault(put(paper, 5, thing), "form")

    def test_what_came_and_what_is_told_may_be_anything_by_the_form(self):
        for paper in itertools.islice(some_papers(), 0, None, 7):
            for thing in ANYTHING + [list(paper[2]), paper[2][:5], DEEP_LIST]:
                self.fault(put(paper, 2, thing), "came")
                self.fault(put(put(paper, 2, thing), 3, thing), "came")
            for thing in ANYTHING + [list(paper[3]), paper[3][:5], DEEP_LIST]:
                self.fault(put(paper, 3, thing), "told")

    def test_came_and_told_by_their_kinds(self):
        for paper in some_papers():
            for which, word in ((2, "came"), (3, "told")):
                for at, held in ((0, -1), (0, True), (1, "ann"), (1, None), (3, -1), (4, 0), (4, None), (5, None)):
                    self.fault(thing_put(paper, which, at, held), word)
            kinds, side = paper[:2]
            if kinds[0] != kinds[1]:
                self.fault(put(paper, 1, 1 - side), "came")
                self.fault(put(paper, 0, kinds[::-1]), "came")
                self.fault(put(put(paper, 2, paper[3]), 3, paper[2]), "came")
                self.fault(put(paper, 3, paper[2]), "told")
                self.fault(put(paper, 2, paper[3]), "came")

    def test_a_cry_that_asks_or_answers_is_no_thing(self):
        for kinds in PAIRS_OF_KINDS:
            paper = crossed(kinds, 0, W, receiver=False)
            self.fault(thing_put(paper, 2, 4, True), "came")
            self.fault(thing_put(paper, 3, 4, True), "told")
            self.fault(thing_put(paper, 2, 3, 0), "came")
            self.fault(thing_put(paper, 3, 3, 0), "told")

    def test_pairs_with_no_names_of_their_kinds(self):
        for paper in some_papers():
            kinds, pairs = paper[0], paper[5]
            for side in (0, 1):
                wrong = ["", "ann", "zz@", *[PLAIN[kind][0] for kind in KINDS if kind != kinds[side]]]
                for name in wrong:
                    for at in range(len(pairs)):
                        self.fault(put(paper, 5, sorted([*pairs[:at], put(pairs[at], side, name), *pairs[at + 1:]])),
                            "names")
                    other = [PLAIN[kinds[0]][3], PLAIN[kinds[1]][3]]
                    other[side] = name
                    self.fault(put(paper, 5, sorted([*pairs, tuple(other)])), "names")

    def test_a_name_that_stands_in_two_pairs(self):
        for paper in some_papers():
            kinds, pairs = paper[0], paper[5]
            for at in range(len(pairs)):
                for side in (0, 1):
                    others = [name for name in PLAIN[kinds[1 - side]] if name != pairs[at][1 - side]]
                    more = put(pairs[at], 1 - side, others[1])
                    self.fault(put(paper, 5, sorted([*pairs, more])), "names")
                self.fault(put(paper, 5, sorted([*pairs, pairs[at]])), "names")

    def test_one_name_on_either_side_is_no_such_fault(self):
        for kind in KINDS:
            door = Door(kind, kind, 0)
            one, two, three = PLAIN[kind][:3]
            door.fix(one, two)
            door.fix(two, one)
            door.fix(three, three)
            thing = thing_of(kind, 1, one, two)
            self.fault(paper_of(door, 0, thing, *door.come(0, thing)), None)
            thing = thing_of(kind, 1, three, three)
            self.fault(paper_of(door, 0, thing, *door.come(0, thing)), None)
            thing = thing_of(kind, 2, two, three)
            self.fault(paper_of(door, 1, thing, *door.come(1, thing)), None)

    def test_pairs_that_are_not_sorted(self):
        for paper in some_papers():
            for pairs in itertools.permutations(paper[5]):
                self.fault(put(paper, 5, list(pairs)), None if list(pairs) == paper[5] else "names")

    def with_pair(self, paper, name, pair):
        """The paper with another pair for that of the name on the side at which it came."""
        side = paper[1]
        rest = [one for one in paper[5] if one[side] != name]
        return put(paper, 5, sorted([*rest, *([pair] if pair else [])]))

    def test_the_sender(self):
        for paper in some_papers():
            kinds, side, came, told, _, _ = paper
            kind, other = kinds[side], kinds[1 - side]
            self.fault(thing_put(paper, 3, 1, PLAIN[other][3]), "sender")
            self.fault(thing_put(paper, 2, 1, PLAIN[kind][3]), "sender")
            pair = (came[1], PLAIN[other][3]) if side == 0 else (PLAIN[other][3], came[1])
            self.fault(self.with_pair(paper, came[1], pair), "sender")
            self.fault(self.with_pair(paper, came[1], None), "sender")
            if came[2] is not None:
                self.fault(thing_put(paper, 3, 1, told[2]), "sender")
                self.fault(thing_put(paper, 2, 1, came[2]), "sender")

    def test_the_receiver(self):
        for paper in some_papers():
            kinds, side, came, told, _, _ = paper
            kind, other = kinds[side], kinds[1 - side]
            if came[2] is None:
                self.fault(thing_put(paper, 3, 2, PLAIN[other][0]), "receiver")
                self.fault(thing_put(paper, 3, 2, told[1]), "receiver")
                self.fault(thing_put(paper, 2, 2, PLAIN[kind][3]), "receiver")
                self.fault(thing_put(paper, 2, 2, came[1]), "receiver")
                continue
            self.fault(thing_put(paper, 3, 2, PLAIN[other][3]), "receiver")
            self.fault(thing_put(paper, 3, 2, told[1]), "receiver")
            self.fault(thing_put(paper, 2, 2, PLAIN[kind][3]), "receiver")
            self.fault(self.with_pair(paper, came[2], None), "receiver")
            pair = (came[2], PLAIN[other][3]) if side == 0 else (PLAIN[other][3], came[2])
            self.fault(self.with_pair(paper, came[2], pair), "receiver")

    def test_a_receiver_here_and_none_there(self):
        for kinds in PAIRS_OF_KINDS:
            for side in (0, 1):
                paper = crossed(kinds, side, W)
                self.fault(thing_put(paper, 3, 2, None), "receiver")
                self.fault(thing_put(paper, 2, 2, None), "receiver")
                unknown = self.with_pair(paper, paper[2][2], None)
                self.fault(thing_put(unknown, 3, 2, None), "receiver")
                self.fault(thing_put(thing_put(paper, 3, 2, None), 2, 2, None), "more")
                self.fault(thing_put(thing_put(unknown, 3, 2, None), 2, 2, None), None)

    def test_asks(self):
        for paper in some_papers():
            if paper[2][2] is not None:
                self.fault(thing_put(paper, 3, 4, not paper[3][4]), "asks")
                self.fault(thing_put(paper, 2, 4, not paper[2][4]), "asks")

    def test_answers(self):
        for paper in some_papers():
            if paper[2][2] is None:
                continue
            for which in (2, 3):
                if paper[which][3] is None:
                    self.fault(thing_put(paper, which, 3, 0), "answers")
                    self.fault(thing_put(paper, which, 3, 7), "answers")
                else:
                    self.fault(thing_put(paper, which, 3, None), "answers")
                    for number in (0, 1, 6, 10 ** 30):
                        self.fault(thing_put(paper, which, 3, number), None)
                self.fault(thing_put(paper, which, 0, 10 ** 30), None)
                self.fault(thing_put(paper, which, 0, 0), None)

    def test_losses(self):
        for paper in some_papers():
            losses = paper[4]
            self.fault(put(paper, 4, list(losses)), None)
            for at in range(len(losses)):
                path, what = losses[at]
                for others in (
                    [], [(path, "word")], [((*path, 0), what)], [(path[:-1], what)], [losses[at]] * 2, [(path, "")],
                ):
                    self.fault(put(paper, 4, losses[:at] + others + losses[at + 1:]), "losses")
            if len(losses) > 1:
                self.fault(put(paper, 4, losses[::-1]), "losses")
            self.fault(put(paper, 4, [*losses, ((0,), "word")]), "losses")

    def test_what_is_said_otherwise(self):
        for paper in some_papers():
            kinds, side, came, told, _, _ = paper
            other = kinds[1 - side]
            left = read_as(other, told[5])
            for saying in (
                (*left, W), (W, *left), left[1:] if left else (PAUSE,), left[::-1] + (PAUSE,), (loud(W),),
                (quote(W),), (("number", 1),), left + left if left else (W,),
            ):
                if all(part[0] in CARRIED[other] for part in saying) and saying != left:
                    self.fault(thing_put(paper, 3, 5, written_as(other, saying)), "says")
            came_left = read_as(kinds[side], came[5])
            self.fault(thing_put(paper, 2, 5, written_as(kinds[side], (*came_left, W))), "says")

    def test_a_name_that_is_led_otherwise_or_not(self):
        for kinds in itertools.product(["letters", "calls", "pages"], repeat=2):
            for side in (0, 1):
                one, two = names_within(kinds[side])
                paper = crossed(kinds, side, one, loud(two) if "loud" in CARRIED[kinds[side]] else quote(two))
                other = kinds[1 - side]
                left = read_as(other, paper[3][5])
                for name in (PLAIN[other][3], paper[3][1], paper[3][2]):
                    saying = (("name", name), *left[1:])
                    self.fault(thing_put(paper, 3, 5, written_as(other, saying)), "says")
                self.fault(thing_put(paper, 3, 5, written_as(other, (("word", "someone"), *left[1:]))), "says")
                for part in (one, two):
                    self.fault(self.with_pair(paper, part[1], None), "says")
                    pair = (part[1], PLAIN[other][3]) if side == 0 else (PLAIN[other][3], part[1])
                    self.fault(self.with_pair(paper, part[1], pair), "says")

    def test_a_name_that_stands_in_no_pair_and_stays(self):
        door = Door("letters", "letters", 0)
        thing = thing_of("letters", 1, "ann@hill", None, ("name", "bob@hill"))
        told, losses = door.come(0, thing)
        paper = paper_of(door, 0, thing, told, losses)
        self.fault(paper, None)
        left_as_it_was = thing_put(paper, 3, 5, thing[5])
        self.fault(left_as_it_was, "says")
        self.fault(self.with_pair(left_as_it_was, "bob@hill", None), "says")
        self.fault(self.with_pair(left_as_it_was, "bob@hill", ("bob@hill", "bob@hill")), None)

    def test_names_that_the_other_kind_does_not_carry_need_no_pair(self):
        for kind in ("letters", "calls", "pages"):
            for side in (0, 1):
                kinds = (kind, "sounds") if side == 0 else ("sounds", kind)
                one, two = names_within(kind)
                paper = crossed(kinds, side, one, two)
                self.fault(paper, None)
                pair = (one[1], PLAIN["sounds"][3]) if side == 0 else (PLAIN["sounds"][3], one[1])
                self.fault(put(paper, 5, sorted([*paper[5], pair])), "more")

    def test_bodies_of_letters_with_more_blanks(self):
        for kinds in PAIRS_OF_KINDS:
            for side in (0, 1):
                paper = crossed(kinds, side, *names_within(kinds[side]), W)
                for which in (2, 3):
                    if kinds[side if which == 2 else 1 - side] == "letters":
                        body = paper[which][5]
                        for other in (body.replace(" ", "  "), f"\n{body} ", body.replace(" ", "\n"), f"{body}\n\n"):
                            self.fault(thing_put(paper, which, 5, other), None)
                        self.fault(thing_put(paper, which, 5, f"{body} ;"), "says")

    def test_a_pair_that_is_none_that_is_needed(self):
        for paper in some_papers():
            kinds = paper[0]
            for names in ((PLAIN[kinds[0]][3], PLAIN[kinds[1]][3]), (own(kinds[0], 0, 9), own(kinds[1], 1, 9))):
                self.fault(put(paper, 5, sorted([*paper[5], names])), "more")

    def test_own_names_of_any_door_may_stand_in_a_paper(self):
        for paper in itertools.islice(some_papers(), 0, None, 4):
            kinds, side, came, told, _, _ = paper
            for name in (own(kinds[1 - side], 5, 5), PLAIN[kinds[1 - side]][3]):
                pair = (came[1], name) if side == 0 else (name, came[1])
                changed = thing_put(self.with_pair(paper, came[1], pair), 3, 1, name)
                said = [part[1] for part in read_as(kinds[side], came[5]) if part[0] == "name"]
                if came[1] not in said:
                    self.fault(changed, None)

    def test_two_faults_at_once_tell_the_first(self):
        one, two = names_within("letters")
        paper = crossed(("letters", "pages"), 0, quote(one), two, PICTURE, answers=True)
        self.fault(paper, None)
        spoils = {
            "form": lambda paper: put(paper, 1, True),
            "came": lambda paper: thing_put(paper, 2, 0, -1),
            "told": lambda paper: thing_put(paper, 3, 0, -1),
            "names": lambda paper: put(paper, 5, paper[5] + paper[5]),
            "sender": lambda paper: thing_put(paper, 3, 1, "/zz"),
            "receiver": lambda paper: thing_put(paper, 3, 2, "/zz"),
            "asks": lambda paper: thing_put(paper, 3, 4, True),
            "answers": lambda paper: thing_put(paper, 3, 3, None),
            "losses": lambda paper: put(paper, 4, []),
            "says": lambda paper: thing_put(paper, 3, 5, ("hi",)),
            "more": lambda paper: put(paper, 5, sorted([*paper[5], ("zz@zz", "/zz")])),
        }
        self.assertEqual(list(spoils), ORDER)
        for first in ORDER:
            self.fault(spoils[first](paper), first)
        for first, second in itertools.combinations(ORDER, 2):
            for order in ((first, second), (second, first)):
                spoiled = spoils[order[1]](spoils[order[0]](paper))
                self.fault(spoiled, first)
        for many in range(3, 12):
            for chosen in itertools.combinations(ORDER, many):
                spoiled = paper
                for word in chosen[::-1]:
                    spoiled = spoils[word](spoiled)
                self.fault(spoiled, chosen[0])

    def test_what_is_handed_in_stays(self):
        papers = list(itertools.islice(some_papers(), 0, None, 6))
        papers += [put(paper, 5, paper[5][::-1]) for paper in papers] + [[1, [2]], ({"a": []},) * 6]
        before = copy.deepcopy(papers)
        for paper in papers:
            first_fault(paper)
            is_paper(paper)
        self.assertEqual(papers, before)

    def test_long_lists(self):
        paper = crossed(("letters", "letters"), 0, W)
        words = [f"{one}{two}{three}@z" for one in "abcdefghij" for two in "abcdefghij" for three in "abcdefghij"]
        pairs = sorted(paper[5] + [(word, word) for word in words])
        self.fault(put(paper, 5, pairs), "more")
        self.fault(put(paper, 5, pairs[::-1]), "names")
        self.fault(put(paper, 4, [((0,), "word")] * 2000), "losses")

    def test_some_things_spoiled_at_random(self):
        chance = random.Random(30)
        papers = list(some_papers())
        for _ in range(1500):
            paper = chance.choice(papers)
            at = chance.randrange(6)
            spoiled = put(paper, at, chance.choice(NO_TEXTS + [chance.choice(papers)[at]]))
            told = first_fault(spoiled)
            self.assertIn(told, [None, *[(word,) for word in ORDER]])
            self.assertIs(is_paper(spoiled), told is None)


if __name__ == "__main__":
    unittest.main()
