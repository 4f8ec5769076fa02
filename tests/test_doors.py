"""Promises 26 to 28: doors, what crosses, what is refused, asks and answers."""

import copy
import inspect
import unittest

from doorkinds.bodies import read_as, written_as
from doorkinds.doors import Door
from doorkinds.errors import Again, Barred, Bound, Feigned, Full, NoName, NoPair, NoSide, NoThing, Stray
from doorkinds.less import lessened
from helping import NO_SIDES, OWN, PAIRS_OF_KINDS, PLAIN, many_names, no_names, own, refused, thing_of
from oddities import ANYTHING, DEEP_LIST
from samples import CARRIED, KINDS, PAUSE, PICTURE, W, loud, quote, some_sayings


class DoorCase(unittest.TestCase):
    def state(self, door):
        return (door.pairs(), door.waiting(0), door.waiting(1))

    def stays(self, door, refusal, call, *args):
        """The call is refused, and pairs and what waits are as they were."""
        before = self.state(door)
        told = refused(self, refusal, call, *args)
        self.assertEqual(self.state(door), before)
        return told

    def saying_of(self, kind, told):
        return read_as(kind, told[0][5])


class Crossing(DoorCase):
    def test_each_pair_of_kinds_from_both_sides(self):
        for kinds in PAIRS_OF_KINDS:
            door = Door(*kinds, 6)
            for side in (0, 1):
                kind, other = kinds[side], kinds[1 - side]
                ann, bob, cy = PLAIN[kind][:3]
                far = PLAIN[other][0]
                near = door.lead(1 - side, far)
                told = door.come(side, thing_of(kind, 30, ann, near, W, ("number", -4), PAUSE, asks=True))
                self.assertIs(type(told), tuple)
                self.assertEqual(len(told), 2)
                body = written_as(other, (W, ("number", -4), PAUSE))
                self.assertEqual(told[0], (1, door.led(side, ann), far, None, True, body))
                self.assertIs(type(told[0]), tuple)
                self.assertEqual(told[1], [])
                told = door.come(side, thing_of(kind, 0, bob, near))
                self.assertEqual(told, ((2, door.led(side, bob), far, None, False, written_as(other, ())), []))
                told = door.come(side, thing_of(kind, 10 ** 40, ann, None, W))
                self.assertEqual(told, ((3, door.led(side, ann), None, None, False, written_as(other, (W,))), []))
                self.assertIsNone(door.led(side, cy))

    def test_a_saying_of_all_parts(self):
        for kinds in PAIRS_OF_KINDS:
            for side in (0, 1):
                kind, other = kinds[side], kinds[1 - side]
                saying = tuple(
                    {"word": W, "number": ("number", 7), "pause": PAUSE, "picture": PICTURE, "loud": loud(W, PAUSE),
                     "quote": quote(W, PAUSE), "name": ("name", PLAIN[kind][1])}[first] for first in CARRIED[kind]
                )
                door = Door(*kinds, 0)
                told, losses = door.come(side, thing_of(kind, 0, PLAIN[kind][0], None, *saying))
                due = {
                    "word": (W,), "number": (("number", 7),), "pause": (PAUSE,),
                    "picture": (PICTURE,) if "picture" in CARRIED[other] else (),
                    "loud": (loud(W, PAUSE),) if "loud" in CARRIED[other] else (W, PAUSE),
                    "quote": (quote(W, PAUSE),) if "quote" in CARRIED[other] else (W, PAUSE),
                    "name": (("name", own(other, 0, 1)),) if "name" in CARRIED[other] else (("word", "someone"),),
                }
                left = tuple(part for first in CARRIED[kind] for part in due[first])
                self.assertEqual(read_as(other, told[5]), left)
                lost = [((at,), first) for at, first in enumerate(CARRIED[kind]) if first not in CARRIED[other]]
                self.assertEqual(losses, lost)
                self.assertIs(type(losses), list)

    def test_the_sender_is_led_ahead_then_names_in_the_order_of_paths(self):
        for kinds in PAIRS_OF_KINDS:
            for side in (0, 1):
                kind, other = kinds[side], kinds[1 - side]
                if "name" not in CARRIED[kind]:
                    continue
                names = many_names(kind, 6)
                rows = [("name", name) for name in names]
                group = "quote" if "quote" in CARRIED[kind] else "loud"
                saying = (rows[3], (group, (rows[1], PAUSE, (group, (rows[4], rows[3])))), rows[0], rows[5], rows[1])
                door = Door(*kinds, 3)
                told, losses = door.come(side, thing_of(kind, 5, names[5], None, *saying))
                order = [5, 3, 1, 4, 0]
                if "name" not in CARRIED[other]:
                    order = [5]
                self.assertEqual(told[1], own(other, 3, 0))
                for k, at in enumerate(order):
                    self.assertEqual(door.led(side, names[at]), own(other, 3, k))
                self.assertEqual(len(door.pairs()), len(order))
                self.assertIsNone(door.led(side, names[2]))
                if "name" in CARRIED[other]:
                    led = {names[at]: own(other, 3, k) for k, at in enumerate(order)}
                    inner = tuple(("name", led[part[1]]) for part in (rows[4], rows[3]))
                    within = (("name", led[names[1]]), PAUSE)
                    if group in CARRIED[other]:
                        within = ((group, (*within, (group, inner))),)
                    else:
                        within = (*within, *inner)
                    due = (
                        ("name", led[names[3]]), *within, ("name", led[names[0]]), ("name", led[names[5]]),
                        ("name", led[names[1]]),
                    )
                    self.assertEqual(read_as(other, told[5]), due)

    def test_names_that_stand_are_led_as_they_stand(self):
        door = Door("letters", "pages", 2)
        door.fix("ann@hill", "/bob")
        door.fix("cy@dale", "/a/b/c")
        near = door.lead(1, "/hill/ann")
        told, losses = door.come(
            0, thing_of("letters", 1, "cy@dale", near, ("name", "ann@hill"), ("name", near), ("name", "cy@dale"))
        )
        self.assertEqual(told[1:3], ("/a/b/c", "/hill/ann"))
        self.assertEqual(told[5], ("<a /bob>", "<a /hill/ann>", "<a /a/b/c>"))
        self.assertEqual(losses, [])
        self.assertEqual(len(door.pairs()), 3)

    def test_own_names_of_other_doors_are_led_as_plain_ones(self):
        door = Door("letters", "calls", 0)
        told, _ = door.come(0, thing_of("letters", 1, "a@doorb", None, ("name", "c@doorg"), ("name", "zzz@doora")))
        self.assertEqual(told[1], "+900")
        self.assertEqual(self.saying_of("calls", (told,)), (("name", "+901"), ("name", "+902")))
        self.assertEqual(door.led(0, "zzz@doora"), "+902")

    def test_what_looks_like_an_own_name_beyond_the_last(self):
        door = Door("calls", "calls", 0)
        told, _ = door.come(0, thing_of("calls", 1, "+902401", None, ("name", "+9000")))
        self.assertEqual(told[1], "+900")
        self.assertEqual(self.saying_of("calls", (told,)), (("name", "+901"),))
        self.stays(door, Feigned, door.come, 0, thing_of("calls", 2, "+902400", None))

    def test_losses_by_the_paths_of_what_came(self):
        door = Door("letters", "sounds", 1)
        saying = (
            ("name", "ann@hill"), quote(PICTURE, loud(PICTURE), W), loud(quote(PICTURE)), PICTURE, W,
            loud(quote(("name", "a@doorb"), W)),
        )
        told, losses = door.come(0, thing_of("letters", 0, "bob@hill", None, *saying))
        self.assertEqual(losses, [
            ((0,), "name"), ((1,), "quote"), ((1, 0), "picture"), ((1, 1, 0), "picture"), ((2, 0), "quote"),
            ((2, 0, 0), "picture"), ((3,), "picture"), ((5, 0), "quote"), ((5, 0, 0), "name"),
        ])
        someone = ("word", "someone")
        self.assertEqual(self.saying_of("sounds", (told,)), (someone, W, W, loud(someone, W)))
        self.assertEqual(len(door.pairs()), 1)

    def test_a_body_of_letters_with_more_blanks_crosses_as_its_saying(self):
        door = Door("letters", "letters", 0)
        told, losses = door.come(0, (0, "ann@hill", None, None, False, "  hi\n{hi;}<  bob@hill > "))
        self.assertEqual(told[5], "hi { hi ; } < b@doora >")
        self.assertEqual(losses, [])

    def test_numbers_from_one_on_by_side_whatever_is_refused_between(self):
        for kinds in PAIRS_OF_KINDS:
            door = Door(*kinds, 0, bars=((0, ("says", "no")), (1, ("says", "no"))))
            numbers = {0: 0, 1: 0}
            for number, side in enumerate([0, 0, 1, 0, 1, 1, 1, 0]):
                kind = kinds[side]
                for thing, refusal in (
                    (thing_of(kind, number, PLAIN[kind][0], None, ("word", "no")), Barred),
                    (thing_of(kind, number, OWN[kind][0][3], None), Feigned),
                    (thing_of(kind, number, PLAIN[kind][0], PLAIN[kind][1]), NoPair),
                    (thing_of(kind, number, PLAIN[kind][0], PLAIN[kind][1], answers=1), NoPair),
                ):
                    self.stays(door, refusal, door.come, side, thing)
                told, _ = door.come(side, thing_of(kind, number, PLAIN[kind][0], None))
                numbers[1 - side] += 1
                self.assertEqual(told[0], numbers[1 - side])
                self.stays(door, Again, door.come, side, thing_of(kind, number, PLAIN[kind][0], None))

    def test_cries(self):
        for kinds in PAIRS_OF_KINDS:
            for side in (0, 1):
                kind, other = kinds[side], kinds[1 - side]
                door = Door(*kinds, 5)
                told, losses = door.come(side, thing_of(kind, 9, PLAIN[kind][0], None, W))
                self.assertEqual(told, (1, own(other, 5, 0), None, None, False, written_as(other, (W,))))
                self.assertEqual(losses, [])
                self.assertEqual(door.waiting(0) + door.waiting(1), [])

    def test_a_thing_to_a_name_that_was_led_here(self):
        door = Door("letters", "pages", 0)
        door.come(0, thing_of("letters", 1, "ann@hill", None))
        told, _ = door.come(0, thing_of("letters", 1, "bob@hill", "ann@hill", W))
        self.assertEqual(told, (2, "/doora/b", "/doora/a", None, False, ("hi",)))
        told, _ = door.come(0, thing_of("letters", 2, "ann@hill", "ann@hill", W))
        self.assertEqual(told, (3, "/doora/a", "/doora/a", None, False, ("hi",)))

    def test_a_thing_to_an_own_name_and_back(self):
        door = Door("letters", "pages", 0)
        told, _ = door.come(0, thing_of("letters", 1, "ann@hill", None))
        told, _ = door.come(1, thing_of("pages", 1, "/bob", told[1], W))
        self.assertEqual(told, (1, "a@doora", "ann@hill", None, False, "hi"))
        told, _ = door.come(0, thing_of("letters", 2, "ann@hill", "a@doora", W))
        self.assertEqual(told, (2, "/doora/a", "/bob", None, False, ("hi",)))

    def test_many_sayings(self):
        for kinds in PAIRS_OF_KINDS:
            for side in (0, 1):
                kind, other = kinds[side], kinds[1 - side]
                door = Door(*kinds, 4)
                plain = {"letters": "ann@hill", "calls": "+123", "pages": "/hill/ann", "sounds": "c-e-g"}[kind]
                for number, saying in enumerate(some_sayings(kind, 30, seed=26)):
                    saying = self.without_own(saying, plain)
                    told, losses = door.come(side, thing_of(kind, number, plain, None, *saying))
                    led = self.without_own(saying, door.led(side, plain))
                    self.assertEqual((read_as(other, told[5]), losses), lessened(led, other))
                    self.assertEqual(losses, lessened(saying, other)[1])
                    self.assertEqual(told[0], number + 1)

    def without_own(self, saying, name):
        done = []
        for part in saying:
            if part[0] in ("loud", "quote"):
                part = (part[0], self.without_own(part[1], name))
            done.append(("name", name) if part[0] == "name" else part)
        return tuple(done)

    def test_the_list_of_losses_is_the_askers_own(self):
        door = Door("letters", "calls", 0)
        for number in range(3):
            told, losses = door.come(0, thing_of("letters", number, "ann@hill", None, PICTURE))
            self.assertEqual(losses, [((0,), "picture")])
            losses.clear()

    def test_what_the_interface_lists(self):
        told = inspect.signature(Door).parameters
        self.assertEqual(list(told), ["kind", "other", "number", "bars", "most"])
        self.assertEqual(told["bars"].kind, inspect.Parameter.KEYWORD_ONLY)
        self.assertEqual(told["most"].kind, inspect.Parameter.KEYWORD_ONLY)
        self.assertEqual((told["bars"].default, told["most"].default), ((), 400))
        for name in ("come", "waiting", "give_up", "fix", "lead", "led", "let_go", "pairs"):
            self.assertIn(name, vars(Door))


class Refusing(DoorCase):
    def test_sides_that_are_none(self):
        for kinds in (("letters", "calls"), ("pages", "sounds"), ("letters", "letters")):
            door = Door(*kinds, 0, bars=((0, ("longer", 0)), (1, ("longer", 0))))
            for side in NO_SIDES:
                self.stays(door, NoSide, door.come, side, thing_of(kinds[0], 0, PLAIN[kinds[0]][0], None))
                self.stays(door, NoSide, door.come, side, None)
                self.stays(door, NoSide, door.waiting, side)

    def test_what_is_no_thing_of_the_sides_kind(self):
        for kinds in PAIRS_OF_KINDS:
            door = Door(*kinds, 0, bars=((0, ("longer", 0)), (1, ("longer", 0))))
            for side in (0, 1):
                for thing in ANYTHING:
                    self.stays(door, NoThing, door.come, side, thing)
                fine = thing_of(kinds[side], 0, PLAIN[kinds[side]][0], None, W)
                for at, held in ((0, -1), (0, True), (1, "ann"), (2, "ann"), (3, 1), (4, True), (4, 0), (5, None)):
                    self.stays(door, NoThing, door.come, side, fine[:at] + (held,) + fine[at + 1:])
                self.stays(door, NoThing, door.come, side, list(fine))
                if kinds[0] != kinds[1]:
                    other = thing_of(kinds[1 - side], 0, PLAIN[kinds[1 - side]][0], None, W)
                    self.stays(door, NoThing, door.come, side, other)

    def test_barred_with_the_bars_number(self):
        bars = (
            (1, ("asks",)), (0, ("says", "no")), (0, ("from", "bob@hill")), (1, ("longer", 2)), (0, ("has", "loud")),
            (1, ("to", "+777")),
        )
        door = Door("letters", "calls", 0, bars=bars)
        near = door.lead(1, "+123")
        for thing, at in (
            (thing_of("letters", 0, "ann@hill", None, quote(("word", "no"))), 1),
            (thing_of("letters", 0, "bob@hill", None), 2),
            (thing_of("letters", 0, "bob@hill", None, ("word", "no"), loud(W)), 1),
            (thing_of("letters", 0, "bob@hill", None, loud(W)), 2),
            (thing_of("letters", 0, "ann@hill", None, loud(W)), 4),
        ):
            told = self.stays(door, Barred, door.come, 0, thing)
            self.assertEqual(told.at, at)
            self.assertIs(type(told.at), int)
        for thing, at in (
            (thing_of("calls", 0, "+123", None, W, W, W), 3), (thing_of("calls", 0, "+123", "+777"), 5),
            (thing_of("calls", 0, "+123", "+777", asks=True), 0), (thing_of("calls", 0, "+123", "+777", W, W, W), 3),
        ):
            self.assertEqual(self.stays(door, Barred, door.come, 1, thing).at, at)
        self.assertEqual(door.come(0, thing_of("letters", 0, "ann@hill", near, W, W, W, asks=True))[0][0], 1)
        self.assertEqual(door.come(1, thing_of("calls", 0, "+123", None, ("word", "no")))[0][0], 1)

    def test_bars_look_at_what_came_not_at_what_is_put_out(self):
        door = Door("letters", "calls", 0, bars=((0, ("from", "+900")), (0, ("says", "someone")),
            (0, ("house", "doora"))))
        told, _ = door.come(0, thing_of("letters", 0, "ann@hill", None, PICTURE))
        self.assertEqual(told[1], "+900")
        door = Door("letters", "sounds", 0, bars=((0, ("says", "someone")), (0, ("has", "picture"))))
        self.assertEqual(door.come(0, thing_of("letters", 0, "ann@hill", None, ("name", "bob@hill")))[0][0], 1)
        self.assertEqual(refused(self, Barred, door.come, 0, thing_of("letters", 1, "ann@hill", None, PICTURE)).at, 1)

    def test_again(self):
        for kinds in PAIRS_OF_KINDS:
            door = Door(*kinds, 0)
            for side in (0, 1):
                kind = kinds[side]
                ann, bob = PLAIN[kind][:2]
                near = door.lead(1 - side, PLAIN[kinds[1 - side]][3])
                door.come(side, thing_of(kind, 4, ann, None, W))
                for thing in (
                    thing_of(kind, 4, ann, None, W), thing_of(kind, 4, ann, near), thing_of(kind, 4, ann, bob),
                    thing_of(kind, 4, ann, near, asks=True), thing_of(kind, 4, ann, near, answers=1),
                ):
                    self.stays(door, Again, door.come, side, thing)
                for number in (3, 5, 0, 10 ** 9):
                    door.come(side, thing_of(kind, number, ann, near))
                    self.stays(door, Again, door.come, side, thing_of(kind, number, ann, None))
                door.come(side, thing_of(kind, 4, bob, None))
                self.stays(door, Again, door.come, side, thing_of(kind, 4, bob, None))

    def test_again_long_after_and_led_anew(self):
        door = Door("letters", "letters", 0)
        door.come(0, thing_of("letters", 0, "ann@hill", None))
        for number in range(1, 200):
            door.come(0, thing_of("letters", number, "ann@hill", None))
        self.stays(door, Again, door.come, 0, thing_of("letters", 0, "ann@hill", None))
        door.let_go(0, "ann@hill")
        self.stays(door, Again, door.come, 0, thing_of("letters", 0, "ann@hill", None))
        door.fix("ann@hill", "ann@hill")
        self.stays(door, Again, door.come, 0, thing_of("letters", 199, "ann@hill", None))
        told, _ = door.come(1, thing_of("letters", 0, "ann@hill", None))
        self.assertEqual(told, (1, "ann@hill", None, None, False, ""))

    def test_what_was_refused_may_come(self):
        door = Door("letters", "calls", 0, bars=((0, ("says", "no")),))
        self.stays(door, Barred, door.come, 0, thing_of("letters", 0, "ann@hill", None, ("word", "no")))
        self.stays(door, NoPair, door.come, 0, thing_of("letters", 0, "ann@hill", "bob@hill"))
        self.assertEqual(door.come(0, thing_of("letters", 0, "ann@hill", None))[0][0], 1)

    def test_feigned_of_a_sender_and_of_names_within(self):
        for kinds in PAIRS_OF_KINDS:
            for side in (0, 1):
                kind, other = kinds[side], kinds[1 - side]
                door = Door(*kinds, 6)
                plain, feigned = PLAIN[kind][0], OWN[kind][1][0]
                self.stays(door, Feigned, door.come, side, thing_of(kind, 0, feigned, None))
                self.stays(door, Feigned, door.come, side, thing_of(kind, 0, feigned, plain))
                if "name" not in CARRIED[kind]:
                    continue
                group = "quote" if "quote" in CARRIED[kind] else "loud"
                for saying in (
                    (("name", feigned),), (W, ("name", plain), ("name", feigned)), ((group, (("name", feigned),)),),
                    ((group, (W, (group, (("name", feigned),)))),),
                ):
                    thing = thing_of(kind, 0, plain, None, *saying)
                    if "name" in CARRIED[other]:
                        self.stays(door, Feigned, door.come, side, thing)
                    else:
                        told, _ = Door(*kinds, 6).come(side, thing)
                        self.assertEqual(told[0], 1)
                self.assertEqual(door.pairs(), [])
                near = door.lead(1 - side, PLAIN[other][0])
                self.assertEqual(near, feigned)
                told, _ = door.come(side, thing_of(kind, 0, plain, None, ("name", feigned)))
                self.assertEqual(told[0], 1)
                told, _ = door.come(side, thing_of(kind, 0, feigned, None, ("name", feigned)))
                self.assertEqual(told[:2], (2, PLAIN[other][0]))

    def test_a_name_feigned_on_one_side_stands_on_the_other(self):
        door = Door("letters", "letters", 0)
        self.assertEqual(door.lead(0, "ann@hill"), "a@doora")
        self.stays(door, Feigned, door.come, 0, thing_of("letters", 0, "a@doora", None))
        told, _ = door.come(1, thing_of("letters", 0, "a@doora", None))
        self.assertEqual(told[1], "ann@hill")

    def test_no_pair_of_a_receiver(self):
        for kinds in PAIRS_OF_KINDS:
            for side in (0, 1):
                kind = kinds[side]
                door = Door(*kinds, 0)
                ann, bob = PLAIN[kind][:2]
                for receiver in (bob, OWN[kind][0][0], OWN[kind][1][0], ann):
                    self.stays(door, NoPair, door.come, side, thing_of(kind, 0, ann, receiver))
                    self.stays(door, NoPair, door.come, side, thing_of(kind, 0, ann, receiver, asks=True))
                if "name" in CARRIED[kind]:
                    self.stays(door, NoPair, door.come, side, thing_of(kind, 0, ann, bob, ("name", bob)))
                    self.stays(door, NoPair, door.come, side, thing_of(kind, 0, ann, ann, ("name", ann)))
                self.assertEqual(door.pairs(), [])
                door.come(side, thing_of(kind, 0, ann, None))
                self.assertEqual(door.come(side, thing_of(kind, 1, ann, ann))[0][0], 2)
                door.let_go(side, ann)
                self.stays(door, NoPair, door.come, side, thing_of(kind, 2, bob, ann))

    def test_full_counts_each_new_name_once(self):
        ann, bob, cy, dee = [("name", name) for name in many_names("letters", 4)]
        for most in (1, 2, 3, 4):
            for saying, many in (
                ((), 1), ((ann,), 1), ((ann, ann, loud(ann)), 1), ((bob,), 2), ((bob, bob, ann), 2),
                ((bob, quote(loud(bob))), 2), ((bob, quote(cy), loud(bob, ann, cy)), 3), ((bob, cy, dee), 4),
            ):
                for other in KINDS:
                    wanted = many if "name" in CARRIED[other] else 1
                    door = Door("letters", other, 0, most=most)
                    thing = thing_of("letters", 0, ann[1], None, *saying)
                    if wanted > most:
                        self.stays(door, Full, door.come, 0, thing)
                        self.assertEqual(door.pairs(), [])
                        self.assertEqual(door.come(0, thing_of("letters", 0, ann[1], None))[0][0], 1)
                    else:
                        door.come(0, thing)
                        self.assertEqual(len(door.pairs()), wanted)

    def test_full_where_some_stand(self):
        door = Door("letters", "pages", 0, most=3)
        near = door.lead(1, "/bob")
        door.come(0, thing_of("letters", 0, "ann@hill", near))
        self.stays(
            door, Full, door.come, 0, thing_of("letters", 0, "bob@hill", None, ("name", "cy@dale"),
            ("name", "ann@hill"))
        )
        self.stays(
            door, Full, door.come, 0, thing_of("letters", 1, "ann@hill", near, ("name", "bob@hill"),
            ("name", "cy@dale"))
        )
        self.stays(
            door, Full, door.come, 1, thing_of("pages", 0, "/bob", None, ("name", "/a"), ("name", "/b"))
        )
        door.come(0, thing_of("letters", 0, "bob@hill", near, ("name", "ann@hill"), ("name", near),
            ("name", "bob@hill")))
        self.assertEqual(len(door.pairs()), 3)
        self.stays(door, Full, door.come, 0, thing_of("letters", 0, "cy@dale", near))
        self.stays(door, Full, door.come, 0, thing_of("letters", 5, "ann@hill", near, loud(("name", "cy@dale"))))
        door.come(0, thing_of("letters", 6, "ann@hill", near, ("name", "bob@hill")))
        door.let_go(0, "bob@hill")
        told, _ = door.come(0, thing_of("letters", 0, "cy@dale", near))
        self.assertEqual(told[:2], (4, "/doora/b"))

    def several(self, door, side, thing, refusals):
        """The thing is refused with the first of these; then, mended step by step, with the next ones."""
        for refusal, mend in refusals:
            self.stays(door, refusal, door.come, side, thing)
            thing = mend(thing)
        return thing

    def with_at(self, at, held):
        return lambda thing: (*thing[:at], held, *thing[at + 1:])

    def test_several_at_once_in_their_order(self):
        for kind in ("letters", "calls", "pages"):
            ann, bob, cy = PLAIN[kind][:3]
            feigned = OWN[kind][0][3]
            bars = ((1, ("longer", 0)), (0, ("says", "no")))
            door = Door(kind, kind, 0, bars=bars, most=1)
            door.come(0, thing_of(kind, 4, ann, None))
            no = written_as(kind, (("word", "no"), ("name", feigned), ("name", cy)))
            yes = written_as(kind, (W, ("name", feigned), ("name", cy)))
            wide = written_as(kind, (W, ("name", ann), ("name", cy)))
            thing = (4, ann, bob, 9, True, no)
            last = self.several(door, 0, thing, [
                (Barred, self.with_at(5, yes)), (Again, self.with_at(0, 5)), (Feigned, self.with_at(5, wide)),
                (NoPair, self.with_at(2, ann)), (Stray, self.with_at(3, None)),
                (Full, self.with_at(5, written_as(kind, (W, ("name", ann))))),
            ])
            self.assertEqual(door.come(0, last)[0][0], 2)
            refused(self, NoSide, door.come, 2, (4, ann, bob, 9, True, no, None))
            refused(self, NoThing, door.come, 0, (4, ann, bob, 9, True, no, None))
            refused(self, NoThing, door.come, 0, (4, ann, bob, 9, 1, no))

    def test_each_ahead_of_the_next_alone(self):
        door = Door("letters", "calls", 0, bars=((0, ("says", "no")),), most=2)
        near = door.lead(1, "+123")
        door.come(0, thing_of("letters", 4, "ann@hill", None))
        no = ("word", "no")
        for thing, refusal in (
            (thing_of("letters", 4, "ann@hill", None, no), Barred),
            (thing_of("letters", 5, "c@doora", None, no), Barred),
            (thing_of("letters", 5, "ann@hill", "bob@hill", no), Barred),
            (thing_of("letters", 5, "ann@hill", near, no, answers=3), Barred),
            (thing_of("letters", 5, "bob@hill", near, no), Barred),
            (thing_of("letters", 4, "ann@hill", None, ("name", "c@doora")), Again),
            (thing_of("letters", 4, "ann@hill", "bob@hill"), Again),
            (thing_of("letters", 4, "ann@hill", near, answers=3), Again),
            (thing_of("letters", 4, "ann@hill", near, ("name", "bob@hill")), Again),
            (thing_of("letters", 5, "c@doora", "bob@hill"), Feigned),
            (thing_of("letters", 5, "ann@hill", "bob@hill", ("name", "c@doora")), Feigned),
            (thing_of("letters", 5, "c@doora", near, answers=3), Feigned),
            (thing_of("letters", 5, "bob@hill", near, ("name", "c@doora")), Feigned),
            (thing_of("letters", 5, "ann@hill", "bob@hill", answers=3), NoPair),
            (thing_of("letters", 5, "bob@hill", "bob@hill"), NoPair),
            (thing_of("letters", 5, "bob@hill", near, answers=3), Stray),
            (thing_of("letters", 5, "ann@hill", near, ("name", "bob@hill"), answers=3), Stray),
            (thing_of("letters", 5, "bob@hill", near), Full),
        ):
            self.stays(door, refusal, door.come, 0, thing)
        self.assertEqual(door.come(0, thing_of("letters", 5, "ann@hill", near))[0][0], 2)

    def test_what_is_handed_in_stays(self):
        things = [[4, "ann@hill"], (4, "ann@hill", None, None, False, ["hi"]), {"a": [1]}]
        before = copy.deepcopy(things)
        door = Door("letters", "calls", 0)
        for thing in things:
            self.stays(door, NoThing, door.come, 0, thing)
            self.stays(door, NoSide, door.come, thing, thing)
            self.stays(door, Stray, door.give_up, 0, thing)
        self.assertEqual(things, before)


class Asking(DoorCase):
    def asked(self, kinds, side, number=40):
        """A door over which ann asked far something from the side, with the names of the two there."""
        door = Door(*kinds, 3)
        ann, far = PLAIN[kinds[side]][0], PLAIN[kinds[1 - side]][0]
        near = door.lead(1 - side, far)
        told, _ = door.come(side, thing_of(kinds[side], number, ann, near, W, asks=True))
        self.assertEqual(told[:5], (1, door.led(side, ann), far, None, True))
        return door, told[1], far

    def test_the_answer_goes_under_the_askers_number_once(self):
        for kinds in PAIRS_OF_KINDS:
            for side in (0, 1):
                for number in (0, 1, 40, 10 ** 30):
                    door, ann, far = self.asked(kinds, side, number)
                    there = 1 - side
                    self.assertEqual(door.waiting(there), [1])
                    self.assertEqual(door.waiting(side), [])
                    kind = kinds[there]
                    told, _ = door.come(there, thing_of(kind, 8, far, ann, W, answers=1))
                    near = door.led(there, far)
                    body = written_as(kinds[side], (W,))
                    self.assertEqual(told, (1, near, PLAIN[kinds[side]][0], number, False, body))
                    self.assertEqual(door.waiting(there), [])
                    self.stays(door, Stray, door.come, there, thing_of(kind, 9, far, ann, W, answers=1))
                    self.assertEqual(door.come(there, thing_of(kind, 9, far, ann, W))[0][0], 2)

    def test_by_another_to_another_at_the_other_side_and_under_another_number(self):
        for kinds in PAIRS_OF_KINDS:
            for side in (0, 1):
                door, ann, far = self.asked(kinds, side)
                there = 1 - side
                kind = kinds[there]
                other = PLAIN[kind][1]
                second = door.lead(side, PLAIN[kinds[side]][1])
                door.lead(there, other)
                for thing in (
                    thing_of(kind, 8, other, ann, answers=1), thing_of(kind, 8, far, second, answers=1),
                    thing_of(kind, 8, far, far, answers=1), thing_of(kind, 8, ann, far, answers=1),
                    thing_of(kind, 8, other, second, answers=1), thing_of(kind, 8, far, ann, answers=2),
                    thing_of(kind, 8, far, ann, answers=0), thing_of(kind, 8, far, ann, answers=40),
                    thing_of(kind, 8, far, ann, answers=10 ** 30), thing_of(kind, 8, other, ann, answers=1, asks=True),
                ):
                    self.stays(door, Stray, door.come, there, thing)
                here = kinds[side]
                near = door.led(there, far)
                first = PLAIN[here][0]
                for thing in (
                    thing_of(here, 8, first, near, answers=1), thing_of(here, 8, near, first, answers=1),
                    thing_of(here, 8, first, near, answers=40),
                ):
                    self.stays(door, Stray, door.come, side, thing)
                self.assertEqual(door.waiting(there), [1])
                self.assertEqual(door.come(there, thing_of(kind, 8, far, ann, answers=1))[0][3], 40)

    def test_what_does_not_ask_waits_for_nothing(self):
        door = Door("letters", "calls", 0)
        near = door.lead(1, "+123")
        told, _ = door.come(0, thing_of("letters", 7, "ann@hill", near))
        self.assertEqual((door.waiting(0), door.waiting(1)), ([], []))
        self.stays(door, Stray, door.come, 1, thing_of("calls", 0, "+123", told[1], answers=1))

    def test_an_ask_that_is_itself_an_answer(self):
        for kinds in PAIRS_OF_KINDS:
            for side in (0, 1):
                door, ann, far = self.asked(kinds, side)
                there = 1 - side
                here, kind = kinds[side], kinds[there]
                near, first = door.led(there, far), PLAIN[here][0]
                told, _ = door.come(there, thing_of(kind, 70, far, ann, answers=1, asks=True))
                self.assertEqual(told[:5], (1, near, first, 40, True))
                self.assertEqual((door.waiting(side), door.waiting(there)), ([1], []))
                told, _ = door.come(side, thing_of(here, 41, first, near, answers=1, asks=True))
                self.assertEqual(told[:5], (2, ann, far, 70, True))
                self.assertEqual((door.waiting(side), door.waiting(there)), ([], [2]))
                told, _ = door.come(there, thing_of(kind, 71, far, ann, answers=2))
                self.assertEqual(told[:5], (2, near, first, 41, False))
                self.assertEqual((door.waiting(side), door.waiting(there)), ([], []))

    def test_an_ask_to_oneself(self):
        for kinds in PAIRS_OF_KINDS:
            for side in (0, 1):
                door = Door(*kinds, 0)
                there = 1 - side
                ann = PLAIN[kinds[side]][0]
                led = door.lead(side, ann)
                told, _ = door.come(side, thing_of(kinds[side], 5, ann, ann, asks=True))
                self.assertEqual(told[:3], (1, led, led))
                self.assertEqual(door.waiting(there), [1])
                self.stays(door, Stray, door.come, side, thing_of(kinds[side], 6, ann, ann, answers=1))
                told, _ = door.come(there, thing_of(kinds[there], 6, led, led, answers=1))
                self.assertEqual(told[:4], (1, ann, ann, 5))
                self.assertEqual(door.waiting(there), [])

    def test_several_asks_answered_in_any_order(self):
        door = Door("letters", "pages", 0)
        near = door.lead(1, "/bob")
        for number in range(10, 22):
            door.come(0, thing_of("letters", number, "ann@hill", near, asks=True))
        self.assertEqual(door.waiting(1), list(range(1, 13)))
        for number, under in enumerate((11, 2, 7, 12, 1)):
            told, _ = door.come(1, thing_of("pages", number, "/bob", "/doora/a", answers=under))
            self.assertEqual(told[3], under + 9)
        self.assertEqual(door.waiting(1), [3, 4, 5, 6, 8, 9, 10])

    def test_asks_of_both_sides_wait_by_sides(self):
        door = Door("letters", "letters", 0)
        a = door.lead(0, "ann@hill")
        b = door.lead(1, "bob@hill")
        self.assertEqual((a, b), ("a@doora", "a@doora"))
        door.come(0, thing_of("letters", 5, "ann@hill", b, asks=True))
        door.come(1, thing_of("letters", 6, "bob@hill", a, asks=True))
        self.assertEqual((door.waiting(0), door.waiting(1)), ([1], [1]))
        told, _ = door.come(0, thing_of("letters", 7, "ann@hill", b, answers=1))
        self.assertEqual(told[:4], (2, a, "bob@hill", 6))
        self.assertEqual((door.waiting(0), door.waiting(1)), ([], [1]))
        told, _ = door.come(1, thing_of("letters", 7, "bob@hill", a, answers=1))
        self.assertEqual(told[:4], (2, b, "ann@hill", 5))

    def test_a_refused_answer_leaves_the_ask(self):
        door = Door("letters", "calls", 0, bars=((1, ("says", "no")),), most=2)
        near = door.lead(1, "+123")
        told, _ = door.come(0, thing_of("letters", 7, "ann@hill", near, asks=True))
        self.stays(door, Barred, door.come, 1, thing_of("calls", 0, "+123", told[1], ("word", "no"), answers=1))
        self.stays(door, Full, door.come, 1, thing_of("calls", 0, "+123", told[1], ("name", "+456"), answers=1))
        self.stays(door, Feigned, door.come, 1, thing_of("calls", 0, "+123", told[1], ("name", "+905"), answers=1))
        self.assertEqual(door.come(1, thing_of("calls", 0, "+123", told[1], answers=1))[0][3], 7)

    def test_waiting_is_the_askers_own_list(self):
        door, _, _ = self.asked(("letters", "calls"), 0)
        first = door.waiting(1)
        first.append(9)
        second = door.waiting(1)
        self.assertEqual(second, [1])
        second.clear()
        self.assertEqual(door.waiting(1), [1])
        third = door.waiting(1)
        door.give_up(1, 1)
        self.assertEqual(third, [1])

    def test_give_up(self):
        for kinds in PAIRS_OF_KINDS:
            for side in (0, 1):
                door, ann, far = self.asked(kinds, side)
                there = 1 - side
                near = door.led(there, far)
                door.come(side, thing_of(kinds[side], 41, PLAIN[kinds[side]][0], near, asks=True))
                for call in (lambda thing: door.give_up(thing, 1), door.waiting):
                    for thing in NO_SIDES:
                        self.stays(door, NoSide, call, thing)
                self.stays(door, Stray, door.give_up, side, 1)
                for thing in [0, 3, -1, 10 ** 30, True, False, None, "1", [1], (1,), {1: 1}, {}, [], DEEP_LIST,
                    *ANYTHING]:
                    if type(thing) is not int or thing not in (1, 2):
                        self.stays(door, Stray, door.give_up, there, thing)
                        self.stays(door, Stray, door.give_up, side, thing)
                        self.stays(door, NoSide, door.give_up, 2, thing)
                self.assertIsNone(door.give_up(there, 1))
                self.assertEqual(door.waiting(there), [2])
                self.stays(door, Stray, door.give_up, there, 1)
                self.stays(door, Stray, door.come, there, thing_of(kinds[there], 8, far, ann, answers=1))
                self.assertEqual(door.come(there, thing_of(kinds[there], 8, far, ann, answers=2))[0][3], 41)
                self.stays(door, Stray, door.give_up, there, 2)


class LettingGo(DoorCase):
    def four_asks(self, kinds):
        """Two of each side ask two of the other: each of the four pairs has asks of both sides."""
        door = Door(*kinds, 0)
        names = [[PLAIN[kind][0], PLAIN[kind][1]] for kind in kinds]
        led = [[door.lead(side, name) for name in names[side]] for side in (0, 1)]
        asks = {}
        for side in (0, 1):
            for asker in (0, 1):
                for asked in (0, 1):
                    thing = thing_of(kinds[side], 10 * asker + asked, names[side][asker], led[1 - side][asked],
                        asks=True)
                    told, _ = door.come(side, thing)
                    asks[(1 - side, told[0])] = ((side, asker), (1 - side, asked))
        return door, names, led, asks

    def test_the_asks_of_the_pair_are_given_up_and_no_others(self):
        for kinds in PAIRS_OF_KINDS:
            for side in (0, 1):
                for at in (0, 1):
                    for by_led in (False, True):
                        door, names, led, asks = self.four_asks(kinds)
                        self.assertEqual((len(door.waiting(0)), len(door.waiting(1))), (4, 4))
                        if by_led:
                            self.assertIsNone(door.let_go(1 - side, led[side][at]))
                        else:
                            self.assertIsNone(door.let_go(side, names[side][at]))
                        for where in (0, 1):
                            left = [n for (there, n), pairs in asks.items() if there == where and (side,
                                at) not in pairs]
                            self.assertEqual(door.waiting(where), sorted(left))
                        self.assertEqual(len(door.pairs()), 3)

    def test_what_is_led_anew_does_not_wait_again(self):
        for side in (0, 1):
            door = Door("letters", "calls", 0)
            near = door.lead(1, "+123")
            told, _ = door.come(0, thing_of("letters", 7, "ann@hill", near, asks=True))
            door.let_go(side, ["ann@hill", "+123"][side])
            self.assertEqual(door.waiting(1), [])
            self.assertEqual(door.lead(side, ["ann@hill", "+123"][side]), ["+900", "a@doora"][side])
            self.assertEqual(door.waiting(1), [])
            self.stays(door, Stray, door.come, 1, thing_of("calls", 0, "+123", "+900", answers=1))
            self.stays(door, Stray, door.give_up, 1, 1)
            told, _ = door.come(0, thing_of("letters", 8, "ann@hill", near, asks=True))
            self.assertEqual(told[0], 2)
            self.assertEqual(door.come(1, thing_of("calls", 0, "+123", "+900", answers=2))[0][3], 8)

    def test_one_name_on_either_side_is_told_apart(self):
        door = Door("letters", "letters", 0)
        door.fix("ann@hill", "bob@hill")
        door.fix("bob@hill", "cy@dale")
        door.fix("cy@dale", "ann@hill")
        door.come(0, thing_of("letters", 1, "ann@hill", "bob@hill", asks=True))
        self.assertEqual(door.waiting(1), [1])
        door.let_go(0, "cy@dale")
        self.assertEqual(door.waiting(1), [1])
        door.let_go(1, "bob@hill")
        self.assertEqual(door.waiting(1), [])

    def test_refused_ones_give_nothing_up(self):
        door = Door("letters", "calls", 0)
        near = door.lead(1, "+123")
        door.come(0, thing_of("letters", 7, "ann@hill", near, asks=True))
        for side in NO_SIDES:
            self.stays(door, NoSide, door.let_go, side, "ann@hill")
        for thing in no_names("letters"):
            self.stays(door, NoName, door.let_go, 0, thing)
        self.stays(door, NoPair, door.let_go, 0, "bob@hill")
        self.stays(door, NoPair, door.let_go, 1, "+901")
        self.assertEqual(door.waiting(1), [1])


class ItsBook(DoorCase):
    def test_as_the_book_does(self):
        for kinds in PAIRS_OF_KINDS:
            door = Door(*kinds, 0, most=4)
            kind, other = kinds
            self.assertEqual(door.pairs(), [])
            self.assertIsNone(door.fix(PLAIN[kind][0], PLAIN[other][0]))
            self.assertEqual(door.lead(0, PLAIN[kind][0]), PLAIN[other][0])
            self.assertEqual(door.lead(0, PLAIN[kind][1]), OWN[other][0][0])
            self.assertEqual(door.lead(1, PLAIN[other][1]), OWN[kind][0][0])
            self.assertEqual(door.led(1, OWN[other][0][0]), PLAIN[kind][1])
            self.assertIsNone(door.led(0, PLAIN[kind][2]))
            self.stays(door, Bound, door.fix, PLAIN[kind][0], PLAIN[other][2])
            self.stays(door, Feigned, door.lead, 0, OWN[kind][0][3])
            for name in no_names(kind):
                self.stays(door, NoName, door.lead, 0, name)
                self.stays(door, NoName, door.led, 0, name)
                self.stays(door, NoName, door.fix, name, PLAIN[other][2])
            for side in NO_SIDES:
                self.stays(door, NoSide, door.lead, side, PLAIN[kind][0])
                self.stays(door, NoSide, door.led, side, PLAIN[kind][0])
            door.fix(PLAIN[kind][2], PLAIN[other][2])
            self.stays(door, Full, door.fix, PLAIN[kind][3], PLAIN[other][3])
            self.stays(door, Full, door.lead, 0, PLAIN[kind][3])
            pairs = door.pairs()
            self.assertEqual(pairs, sorted(pairs))
            self.assertEqual(len(pairs), 4)
            pairs.clear()
            self.assertEqual(len(door.pairs()), 4)
            self.assertIsNone(door.let_go(0, PLAIN[kind][2]))
            self.stays(door, NoPair, door.let_go, 0, PLAIN[kind][2])
            self.assertEqual(len(door.pairs()), 3)

    def test_two_doors_by_turns(self):
        one = Door("letters", "calls", 0)
        two = Door("letters", "calls", 0)
        near = one.lead(1, "+123")
        self.stays(two, NoPair, two.come, 0, thing_of("letters", 1, "ann@hill", near))
        one.come(0, thing_of("letters", 1, "ann@hill", near, asks=True))
        told, _ = two.come(0, thing_of("letters", 1, "bob@hill", None))
        self.assertEqual(told[:2], (1, "+900"))
        self.assertEqual((one.waiting(1), two.waiting(1)), ([1], []))
        told, _ = two.come(0, thing_of("letters", 1, "ann@hill", None))
        self.assertEqual(told[:2], (2, "+901"))


class ManyNames(DoorCase):
    def test_four_hundred_names_over_one_door(self):
        for kinds in (("letters", "calls"), ("calls", "sounds"), ("sounds", "pages"), ("pages", "letters")):
            door = Door(*kinds, 5)
            near = door.lead(1, PLAIN[kinds[1]][0])
            for k, name in enumerate(many_names(kinds[0], 399)):
                told, _ = door.come(0, thing_of(kinds[0], 1, name, near, W, asks=True))
                self.assertEqual(told[:3], (k + 1, own(kinds[1], 5, k), PLAIN[kinds[1]][0]))
            self.stays(door, Full, door.come, 0, thing_of(kinds[0], 1, PLAIN[kinds[0]][1], near, W))
            self.assertEqual(door.waiting(1), list(range(1, 400)))
            for number, k in ((0, 398), (1, 0), (2, 200)):
                told, _ = door.come(
                    1, thing_of(kinds[1], number, PLAIN[kinds[1]][0], own(kinds[1], 5, k), answers=k + 1)
                )
                self.assertEqual(told[:4], (number + 1, near, many_names(kinds[0], 399)[k], 1))


if __name__ == "__main__":
    unittest.main()
