"""Promise 37: a desk and its rows."""

import copy
import inspect
import random
import unittest

from doorkinds.bodies import read_as, written_as
from doorkinds.desk import Desk
from doorkinds.errors import (
    Again, DoorError, Full, Known, NoBody, NoMember, NoName, NoNet, NoPair, NoPlace, NoRow, NoThing, NoTicket, NoWay,
    NoYard
)
from doorkinds.less import lessened
from doorkinds.letters import read, written
from doorkinds.yards import Yard
from helping import PLAIN, many_names, refused
from oddities import ANYTHING, SIGNS
from samples import KINDS

YARD = "yard letters,calls,pages,sounds 0>1,1>2,3>2 40"
ROWS = [
    "join 0 dee@dale", "introduce 0 ann@hill 2", "send 0 1 ann@hill bob@hill hi", "send 0 1 ann@hill bob@hill ",
    "ask 0 1 ann@hill bob@hill hi", "answer 0 1 ann@hill bob@hill 4 hi", "cry 0 ann@hill 1 hi", "cry 0 ann@hill 1 ",
    "road 0", "inbox 0 ann@hill", "broken 0", "way 0 2",
]


def desk_of(yard=YARD, kinds=KINDS):
    """A desk of a yard with the first two plain names of each kind as members."""
    desk = Desk()
    assert desk.say(yard) == "ok"
    for net, kind in enumerate(kinds):
        for name in PLAIN[kind][:2]:
            assert desk.say(f"join {net} {name}") == "ok"
    return desk


class DeskCase(unittest.TestCase):
    def says(self, desk, *rows):
        """The desk answers each row just so."""
        for row, due in rows:
            told = desk.say(row)
            self.assertEqual(told, due, row)
            self.assertIs(type(told), str)

    def state(self, desk):
        """All that rows tell of the yard of desk_of."""
        told = []
        for net, kind in enumerate(KINDS):
            told += [desk.say(f"road {net}"), desk.say(f"broken {net}")]
            told += [desk.say(f"inbox {net} {name}") for name in PLAIN[kind][:2]]
        return told

    def refuses(self, desk, refusal, *rows):
        before = self.state(desk)
        for row in rows:
            with self.subTest(row=row):
                refused(self, refusal, desk.say, row)
        self.assertEqual(self.state(desk), before)


class Yards(DeskCase):
    def test_told_by_a_row(self):
        for row in (
            YARD, "yard letters - 1", "yard sounds - 200", "yard calls,calls 0>1 40", "yard calls,calls 1>0,0>1 40",
            "yard letters,letters,letters,letters,letters 0>4,4>3,3>2,2>1,1>0,0>2,2>4 7",
        ):
            self.says(Desk(), (row, "ok"))

    def test_kinds_doors_and_most_are_those_of_the_row(self):
        desk = Desk()
        self.says(
            desk, ("yard pages,calls,letters 2>0,1>0 3", "ok"), ("join 0 /a", "ok"), ("join 1 +123", "ok"),
            ("join 2 a@b", "ok"), ("way 2 1", "0 1"), ("way 2 0", "0"), ("send 2 1 a@b a@b abcdefg", "ticket 0"),
            ("road 2", "3"), ("introduce 2 a@b 1", "+910"), ("introduce 1 +123 0", "/doorb/a"),
        )
        refused(self, NoNet, desk.say, "road 3")

    def test_rows_of_no_form(self):
        for row in (
            "yard", "yard ", "yard letters", "yard letters -", "yard letters - ", "yard letters - 40 ",
            "yard letters - 40 40",
            "yard  letters - 40", "yard letters  - 40", "yard letters -  40", " yard letters - 40",
            "yard letters - 40\n",
            "Yard letters - 40", "yards letters - 40",
            "yard letters, - 40", "yard ,letters - 40", "yard letters,,calls - 40", "yard , - 40", "yard Letters - 40",
            "yard letterssx - 40", "yard letters;calls - 40", "yard 4 - 40", "yard - - 40",
            "yard letters,calls, 0>1 40",
            "yard letters\n - 40", "yard lett3rs - 40",
        ):
            refused(self, NoRow, Desk().say, row)

    def test_doors_of_no_form(self):
        for doors in (
            "--", "-,-", "0>1,", ",0>1", "0>1,,1>0", "0>1,-", "-,0>1", "0", "0>", ">1", ">", "0>1>0", "0<1", "0-1",
            "0>1;1>0",
            "00>1", "0>01", "a>b", "0>-1", "-1>0", "+0>1", "0>1.", "0>12345678901", "12345678901>0", "0>1\n", "(0,1)",
            "01",
        ):
            refused(self, NoRow, Desk().say, f"yard letters,calls {doors} 40")

    def test_most_of_no_form(self):
        for most in ("-", "-1", "+1", "01", "040", "00", "a", "1.", "4O", "12345678901", "1,2", "1>2", "40\n", "-0",
            "1-"):
            refused(self, NoRow, Desk().say, f"yard letters - {most}")

    def test_no_yard_of_all_else(self):
        for rest in (
            "letter - 40", "word - 40", "letters,words - 40", "a,b,c,d,e,f - 40",
            "letters,letters,letters,letters,letters,calls - 40",
            "letters 0>1 40", "letters 0>0 40", "letters,calls 0>2 40", "letters,calls 2>0 40",
            "letters,calls 0>1,1>1 40",
            "letters,calls 0>9999999999 40", "letters,calls 0>1,0>1,0>1,0>1,0>1,0>1,0>1,0>1 40", "letters - 0",
            "letters - 201",
            "letters - 9999999999", "letter 5>5 0",
        ):
            refused(self, NoYard, Desk().say, f"yard {rest}")

    def test_a_yard_told_anew_has_nothing_of_the_elder_one(self):
        desk = desk_of()
        self.says(desk, ("introduce 0 ann@hill 1", "+900"), ("cry 0 ann@hill 1 hi", "ticket 0"), ("road 0", "1"))
        self.says(desk, (YARD, "ok"), ("road 0", "0"), ("broken 0", "none"))
        refused(self, NoMember, desk.say, "inbox 0 ann@hill")
        self.says(
            desk, ("join 0 bob@hill", "ok"), ("introduce 0 bob@hill 1", "+900"), ("cry 0 bob@hill 1 hi", "ticket 0"),
            ("yard calls - 1", "ok"), ("way 0 0", "here"),
        )
        refused(self, NoNet, desk.say, "road 1")

    def test_a_yard_refused_leaves_the_elder_one(self):
        desk = desk_of()
        self.says(desk, ("cry 0 ann@hill 1 hi", "ticket 0"), ("come 0 0", "cried;over 0 1 0"))
        self.refuses(desk, NoYard, "yard letters 0>0 40", "yard word - 40", "yard letters - 0", "yard letters - 201")
        self.refuses(desk, NoRow, "yard letters 00 40", "yard Letters - 40", "yard letters - 40 ",
            "yard letters - -1", "yard")
        self.says(desk, ("inbox 0 bob@hill", "1;1 ann@hill hi"), ("road 1", "1"), ("road 3", "0"))

    def test_a_bare_desk(self):
        for row in [*ROWS, "come 0 0", "lose 0 0", "double 0 0", "bend 0 0", "again 0 0", "send 9 1 a b {", "road 9"]:
            refused(self, NoRow, Desk().say, row)
        desk = Desk()
        refused(self, NoYard, desk.say, "yard word - 40")
        refused(self, NoRow, desk.say, "road 0")
        self.says(desk, ("yard letters - 40", "ok"), ("road 0", "0"))

    def test_two_desks(self):
        one, two = Desk(), Desk()
        self.says(one, ("yard letters - 40", "ok"), ("join 0 a@b", "ok"))
        refused(self, NoRow, two.say, "road 0")
        self.says(two, ("yard letters - 40", "ok"))
        refused(self, NoMember, two.say, "inbox 0 a@b")
        self.says(two, ("join 0 a@b", "ok"), ("cry 0 a@b 1 ", "ticket 0"))
        self.says(one, ("road 0", "0"), ("cry 0 a@b 1 ", "ticket 0"))

    def test_what_the_interface_lists(self):
        self.assertEqual(list(inspect.signature(Desk).parameters), [])
        self.assertIn("say", vars(Desk))


class Answers(DeskCase):
    def test_join_and_introduce(self):
        desk = Desk()
        self.says(
            desk, (YARD, "ok"), ("join 0 ann@hill", "ok"), ("join 3 c-e-g", "ok"),
            ("introduce 0 ann@hill 0", "ann@hill"),
            ("introduce 0 ann@hill 3", "g-c-a"), ("introduce 3 c-e-g 0", "a@doora"), ("introduce 0 ann@hill 1", "+900"),
        )
        refused(self, Known, desk.say, "join 0 ann@hill")
        refused(self, NoNet, desk.say, "join 4 nobody")
        refused(self, NoNet, desk.say, "join 9999999999 ann@hill")
        refused(self, NoName, desk.say, "join 1 ann@hill")
        refused(self, NoName, desk.say, "join 0 a@doorg")
        refused(self, NoName, desk.say, "join 0 ann@hill\n")
        refused(self, NoName, desk.say, "join 0 -")
        refused(self, NoNet, desk.say, "introduce 4 nobody 0")
        refused(self, NoNet, desk.say, "introduce 0 nobody 4")
        refused(self, NoMember, desk.say, "introduce 0 bob@hill 1")
        desk = desk_of("yard letters,calls - 40", KINDS[:2])
        refused(self, NoWay, desk.say, "introduce 0 ann@hill 1")

    def test_introduce_where_a_door_is_full(self):
        desk = Desk()
        desk.say("yard letters,calls 0>1 40")
        for name in many_names("letters", 401):
            desk.say(f"join 0 {name}")
        for number, name in enumerate(many_names("letters", 400)):
            self.assertEqual(desk.say(f"introduce 0 {name} 1"), f"+90{number}")
        refused(self, Full, desk.say, f"introduce 0 {many_names('letters', 401)[400]} 1")

    def test_way(self):
        desk = Desk()
        self.says(
            desk, ("yard letters,calls,pages,calls,calls 0>1,1>2,2>3,3>0 40", "ok"), ("way 0 0", "here"),
            ("way 4 4", "here"),
            ("way 0 1", "0"), ("way 0 2", "0 1"), ("way 2 0", "1 0"), ("way 0 4", "none"), ("way 4 0", "none"),
            ("way 0 3", "3"),
        )
        refused(self, NoNet, desk.say, "way 0 5")
        refused(self, NoNet, desk.say, "way 5 0")

    def test_send_road_and_inbox(self):
        desk = desk_of()
        self.says(
            desk, ("inbox 0 bob@hill", "0"), ("road 0", "0"), ("send 0 1 ann@hill bob@hill hi", "ticket 0"),
            ("send 0 2 bob@hill bob@hill ", "ticket 1"), ("road 0", "2"), ("come 0 0", "inbox bob@hill"),
            ("road 0", "1"),
            ("inbox 0 bob@hill", "1;1 ann@hill hi"), ("come 0 0", "inbox bob@hill"),
            ("inbox 0 bob@hill", "2;1 ann@hill hi;2 bob@hill "), ("inbox 0 ann@hill", "0"), ("road 0", "0"),
        )

    def test_send_lessened_to_the_nets_kind(self):
        letter = "hi < a { b [12/34] } > ; -5 { [1] } [9]"
        for net, kind in enumerate(KINDS):
            desk = desk_of()
            ann, bob = PLAIN[kind][:2]
            saying = lessened(read(letter), kind)[0]
            self.says(
                desk, (f"send {net} 7 {ann} {bob} {letter}", "ticket 0"), (f"come {net} 0", f"inbox {bob}"),
                (f"inbox {net} {bob}", f"1;7 {ann} {written(saying)}"),
            )

    def test_letters_with_more_blanks_and_line_feeds(self):
        desk = desk_of()
        for number, letter in enumerate(["  hi", "hi  ", "\nhi", " hi\n\n<a  >", "<a>{b}", " ", "\n", "   "]):
            self.says(
                desk, (f"send 0 {number} ann@hill bob@hill {letter}", f"ticket {number}"),
                ("come 0 0", "inbox bob@hill"),
            )
            self.assertEqual(
                desk.say("inbox 0 bob@hill").split(";")[-1], f"{number} ann@hill {written(read(letter))}",
            )

    def test_letters_that_write_none(self):
        desk = desk_of()
        for letter in (
            "Hi", "<", "< >", "{ a", "a >", "01", "-0", "12345678901", "[1/22]", "[]", "?", "abcdefghi",
            "a" + " a" * 60,
            "ann@hill", "a bob@hill", "< { ann@hill } >", "zz@zz", "a@doora", "{ < { { a } } > }",
        ):
            self.refuses(
                desk, NoBody, f"send 0 1 ann@hill bob@hill {letter}", f"ask 0 1 ann@hill bob@hill {letter}",
                f"answer 0 1 ann@hill bob@hill 5 {letter}", f"cry 0 ann@hill 1 {letter}", f"cry 3 c-e-g 1 {letter}",
            )

    def test_no_net_then_no_body_then_as_the_yard_refuses(self):
        desk = desk_of()
        desk.say("send 0 1 ann@hill bob@hill hi")
        for row, refusal in (
            ("send 4 1 zz yy ?", NoNet), ("ask 4 1 zz yy ?", NoNet), ("answer 4 1 zz yy 1 ?", NoNet),
            ("cry 4 zz 1 ?", NoNet),
            ("send 0 1 zz yy ?", NoBody), ("ask 0 1 zz yy ?", NoBody), ("answer 0 1 zz yy 1 ?", NoBody),
            ("cry 0 zz 1 ?", NoBody),
            ("send 0 1 zz yy hi", NoThing), ("ask 0 1 zz yy hi", NoThing), ("answer 0 1 zz yy 1 hi", NoThing),
            ("cry 0 zz 1 hi", NoThing), ("send 0 1 ann@hill yy hi", NoThing),
            ("send 1 1 ann@hill bob@hill hi", NoThing),
            ("send 0 1 zz@zz yy@yy hi", NoMember), ("ask 0 1 zz@zz yy@yy hi", NoMember), ("cry 0 zz@zz 1 hi", NoMember),
            ("answer 0 1 zz@zz yy@yy 1 hi", NoMember),
            ("send 0 1 ann@hill yy@yy hi", Again), ("ask 0 1 ann@hill yy@yy hi", Again), ("cry 0 ann@hill 1 hi", Again),
            ("answer 0 1 ann@hill yy@yy 1 hi", Again),
            ("send 0 2 ann@hill yy@yy hi", NoPair), ("ask 0 2 ann@hill a@doora hi", NoPair),
            ("answer 0 2 ann@hill a@doora 1 hi", NoPair),
        ):
            self.refuses(desk, refusal, row)

    def test_ask_and_answer(self):
        desk = desk_of()
        self.says(
            desk, ("introduce 2 /bob 0", "a@doora"), ("ask 0 40 ann@hill a@doora who", "ticket 0"),
            ("come 0 0", "over 0 1 0"),
            ("come 1 0", "over 1 2 0"), ("come 2 0", "inbox /bob"), ("inbox 2 /bob", "1;1 /doorb/a who"),
            ("answer 2 5 /bob /doorb/a 1 me", "ticket 1"), ("come 2 0", "over 1 1 1"), ("come 1 0", "over 0 0 1"),
            ("come 0 0", "inbox ann@hill"), ("inbox 0 ann@hill", "1;1 a@doora me"),
            ("answer 2 6 /bob /doorb/a 1 me", "ticket 2"), ("come 2 0", "stopped 1 Stray"),
            ("answer 0 60 ann@hill a@doora 1 no", "ticket 2"), ("come 0 0", "stopped 0 Stray"),
            ("send 0 41 ann@hill a@doora who", "ticket 3"), ("come 0 0", "over 0 1 2"), ("come 1 0", "over 1 2 3"),
            ("come 2 0", "inbox /bob"), ("inbox 2 /bob", "2;1 /doorb/a who;2 /doorb/a who"),
            ("answer 2 7 /bob /doorb/a 2 me", "ticket 4"), ("come 2 0", "stopped 1 Stray"),
        )

    def test_an_answer_by_the_number_of_the_row(self):
        desk = desk_of()
        self.says(desk, ("introduce 1 +123 0", "a@doora"))
        for number in (3, 4):
            self.says(
                desk, (f"ask 0 {number} ann@hill a@doora ", f"ticket {number - 3}"),
                ("come 0 0", f"over 0 1 {number - 3}"),
                ("come 1 0", "inbox +123"),
            )
        self.says(
            desk, ("answer 1 9 +123 +900 2 ", "ticket 2"), ("come 1 0", "over 0 0 2"), ("come 0 0", "inbox ann@hill"),
            ("answer 1 8 +123 +900 2 ", "ticket 3"), ("come 1 0", "stopped 0 Stray"),
            ("answer 1 7 +123 +900 3 ", "ticket 4"), ("come 1 0", "stopped 0 Stray"),
            ("answer 1 6 +123 +900 1 ", "ticket 5"), ("come 1 0", "over 0 0 3"),
        )

    def test_cry(self):
        desk = desk_of("yard letters,calls,pages 0>1,2>1,0>1,0>2 40", KINDS[:3])
        self.says(
            desk, ("cry 0 ann@hill 3 hi { you }", "ticket 0"), ("come 0 0", "cried;over 0 1 0;over 2 1 1;over 3 2 0"),
            ("come 1 1", "cried;over 0 0 1;over 1 2 1"), ("come 1 0", "cried"), ("come 2 0", "cried;over 1 1 2"),
            ("come 2 0", "cried"), ("come 0 0", "cried"), ("come 1 0", "cried"), ("inbox 0 ann@hill", "0"),
            ("inbox 0 bob@hill", "1;3 ann@hill hi { you }"), ("inbox 1 +456", "1;1 +920 hi { you }"),
            ("inbox 2 /bob", "1;1 /doord/a hi you"),
        )

    def test_stopped_in_a_cry(self):
        desk = Desk()
        desk.say("yard letters,calls,sounds 0>1,2>0 40")
        desk.say("join 0 ann@hill")
        for number, name in enumerate(many_names("letters", 400)):
            desk.say(f"join 0 {name}")
            desk.say(f"introduce 0 {name} 1")
        self.says(
            desk, ("cry 0 ann@hill 1 hi", "ticket 0"), ("come 0 0", "cried;stopped 0 Full;over 1 2 0"),
            ("come 2 0", "cried"),
        )

    def test_deeds_new_known_bent_broken_again(self):
        desk = desk_of("yard letters,calls,pages,sounds 0>1,1>2,3>2 2")
        self.says(
            desk, ("send 0 1 ann@hill bob@hill abcdef", "ticket 0"), ("send 0 2 ann@hill bob@hill abcd", "ticket 1"),
            ("road 0", "5"), ("double 0 1", "ok"), ("road 0", "6"), ("bend 0 0", "ok"), ("come 0 0", "bent 0"),
            ("come 0 0", "new 0"), ("come 0 3", "known 0"), ("lose 0 0", "ok"), ("road 0", "2"), ("broken 0", "0:0,2"),
            ("come 0 1", "new 1"), ("broken 0", "0:0,2"), ("lose 0 0", "ok"), ("broken 0", "0:0,2 1:0"),
            ("again 0 0", "2"),
            ("broken 0", "1:0"), ("again 0 1", "1"), ("broken 0", "none"), ("road 0", "3"),
            ("come 0 2", "inbox bob@hill"),
            ("come 0 0", "new 0"), ("come 0 0", "inbox bob@hill"), ("again 0 0", "0"), ("broken 0", "none"),
            ("inbox 0 bob@hill", "2;2 ann@hill abcd;1 ann@hill abcdef"),
        )
        self.refuses(desk, NoPlace, "come 0 0", "lose 0 0", "double 0 0", "bend 0 0", "come 3 9999999999")
        self.refuses(desk, NoTicket, "again 0 2", "again 0 9999999999", "again 1 0")
        self.refuses(
            desk, NoNet, "come 4 0", "lose 4 0", "double 4 0", "bend 4 0", "again 4 0", "road 4", "broken 4",
            "inbox 4 ann@hill",
            "inbox 9999999999 nobody",
        )
        self.refuses(desk, NoMember, "inbox 0 nobody", "inbox 0 +123", "inbox 0 cy@dale", "inbox 1 ann@hill")

    def test_names_in_the_inbox_are_someone(self):
        for net, kind in ((0, "letters"), (1, "calls"), (2, "pages")):
            desk = desk_of("yard letters,calls,pages,sounds - 200")
            name = PLAIN[kind][0]
            group = "quote" if kind != "pages" else "loud"
            inner = (("name", name), ("word", "a"), (group, (("name", PLAIN[kind][2]),)))
            body = written_as(kind, (("name", name), (group, inner), ("name", name)))
            # No row sends names, so that the thing is sent behind the desk's back.
            desk._yard.send(net, (8, name, name, None, False, body))
            due = "someone { someone a { someone } } someone"
            due = due if kind != "pages" else due.replace("{", "<").replace("}", ">")
            self.says(desk, (f"come {net} 0", f"inbox {name}"), (f"inbox {net} {name}", f"1;8 {name} {due}"))

    def test_nobody(self):
        desk = desk_of()
        self.says(desk, ("introduce 1 +123 0", "a@doora"))
        desk._yard.cry(0, "ann@hill", 1, "zz@zz")
        self.says(
            desk, ("come 0 0", "cried;over 0 1 0"), ("send 1 1 +123 +901 hi", "ticket 1"), ("come 1 1", "over 0 0 1"),
            ("come 0 0", "nobody zz@zz"),
        )

    def test_as_the_document_writes(self):
        desk = Desk()
        self.says(
            desk, ("yard letters,letters 0>1 5", "ok"), ("join 0 ann@hill", "ok"), ("join 0 bob@hill", "ok"),
            ("send 0 1 ann@hill bob@hill hi", "ticket 0"), ("send 0 2 bob@hill bob@hill ", "ticket 1"),
            ("come 0 0", "inbox bob@hill"), ("come 0 0", "inbox bob@hill"),
            ("inbox 0 bob@hill", "2;1 ann@hill hi;2 bob@hill "),
        )


class Forms(DeskCase):
    def test_words_too_many_or_too_few(self):
        desk = desk_of()
        for row in ROWS + ["come 0 0", "lose 0 0", "double 0 0", "bend 0 0", "again 0 0"]:
            words = row.split(" ")
            has_letter = words[0] in ("send", "ask", "answer", "cry")
            for many in range(1, len(words)):
                self.refuses(desk, NoRow, " ".join(words[:many]))
                if many < len(words) - 1:
                    self.refuses(desk, NoRow, " ".join(words[:many]) + " ")
            if not has_letter:
                self.refuses(desk, NoRow, f"{row} ", f"{row} 0", f"{row} hi")
            self.refuses(desk, NoRow, f" {row}", f"{row.replace(' ', '  ', 1)}", words[0].upper() + row[len(words[0]):])

    def test_two_blanks_between_words(self):
        desk = desk_of()
        for row in ROWS:
            words = row.split(" ")
            last = len(words) - 1 if words[0] in ("send", "ask", "answer", "cry") else len(words)
            for at in range(1, last):
                self.refuses(desk, NoRow, " ".join(words[:at]) + "  " + " ".join(words[at:]))

    def test_no_word_but_a_letter_is_empty(self):
        desk = desk_of()
        for row in ROWS + ["come 0 0", "lose 0 0", "double 0 0", "bend 0 0", "again 0 0"]:
            words = row.split(" ")
            for at in range(len(words)):
                if at < len(words) - 1 or words[0] not in ("send", "ask", "answer", "cry"):
                    self.refuses(desk, NoRow, " ".join([*words[:at], "", *words[at + 1:]]))

    def test_numbers(self):
        desk = desk_of()
        wrong = ["00", "01", "007", "-0", "-1", "+1", "a", "1a", "1.", "12345678901", "00000000001", "x", "1\n", "",
            "0x1", "1-"]
        for row, places in (
            ("join 0 dee@dale", [1]), ("introduce 0 ann@hill 2", [1, 3]), ("send 0 1 ann@hill bob@hill hi", [1, 2]),
            ("ask 0 1 ann@hill bob@hill hi", [1, 2]), ("answer 0 1 ann@hill bob@hill 4 hi", [1, 2, 5]),
            ("cry 0 ann@hill 1 hi", [1, 3]), ("come 0 0", [1, 2]), ("lose 0 0", [1, 2]), ("double 0 0", [1, 2]),
            ("bend 0 0", [1, 2]), ("road 0", [1]), ("inbox 0 ann@hill", [1]), ("broken 0", [1]), ("again 0 0", [1, 2]),
            ("way 0 2", [1, 2]),
        ):
            words = row.split(" ")
            for at in places:
                for number in wrong:
                    self.refuses(desk, NoRow, " ".join([*words[:at], number, *words[at + 1:]]))

    def test_numbers_of_ten_figures(self):
        desk = desk_of()
        self.says(
            desk, ("send 0 9999999999 ann@hill bob@hill hi", "ticket 0"), ("cry 0 ann@hill 1000000000 ", "ticket 1"),
            ("answer 0 0 ann@hill bob@hill 9999999999 hi", "ticket 2"), ("come 0 0", "inbox bob@hill"),
            ("inbox 0 bob@hill", "1;9999999999 ann@hill hi"),
        )
        for row in ("road 9999999999", "way 0 9999999999", "introduce 0 ann@hill 1000000000", "join 4294967296 a@b"):
            self.refuses(desk, NoNet, row)

    def test_no_row_ahead_of_what_the_yard_refuses(self):
        desk = desk_of()
        self.refuses(
            desk, NoRow, "send 9 01 zz yy ?", "cry 9 zz x ?", "introduce 9 nobody x", "come 9 -1", "again 9 00",
            "way 9 01",
            "answer 9 1 zz yy -1 ?", "inbox 9 ", "join 9 ",
        )

    def test_rows_that_are_none(self):
        desk = desk_of()
        for row in (
            "", " ", "\n", "hi", "members 0", "losses 0 0", "join", "road", "roads 0", "road\n0", "road 0\n",
            "\nroad 0", "road,0",
            "road\t0"[:4], "come0 0", "ok", "yard", "none", "JOIN 0 zz@zz", "say road 0", "give_up 0 0", "kind 0",
        ):
            self.refuses(desk, NoRow, row)
        for sign in SIGNS:
            self.refuses(desk, NoRow, sign, f"road{sign}", f"{sign}road 0",
                f"road 0{sign}" if not sign.isdigit() else sign)

    def test_what_is_no_text(self):
        for desk in (Desk(), desk_of()):
            for thing in ANYTHING:
                refused(self, NoRow, desk.say, thing)
            for row in ROWS:
                refused(self, NoRow, desk.say, [row])
                refused(self, NoRow, desk.say, tuple(row.split(" ")))
                refused(self, NoRow, desk.say, row.encode())
                refused(self, NoRow, desk.say, {row: row})

    def test_what_is_handed_in_stays(self):
        things = [["road 0"], {"road": [0]}, (["road"], "0")]
        before = copy.deepcopy(things)
        for thing in things:
            refused(self, NoRow, desk_of().say, thing)
        self.assertEqual(things, before)

    def test_some_rows_spoiled_at_random(self):
        chance = random.Random(37)
        desk = desk_of()
        told = 0
        for _ in range(1500):
            row = chance.choice(ROWS)
            at = chance.randrange(len(row))
            row = row[:at] + chance.choice(SIGNS + ["", ""]) + row[at + chance.randint(0, 1):]
            try:
                self.assertIs(type(desk.say(row)), str)
                told += 1
            except DoorError:
                pass
        self.assertGreater(told, 15)


class LongRun(DeskCase):
    def test_beside_a_yard(self):
        chance = random.Random(38)
        desk = desk_of("yard letters,calls,pages,sounds 0>1,1>2,3>2,0>3 4")
        yard = Yard(KINDS, ((0, 1), (1, 2), (3, 2), (0, 3)), most=4)
        for net, kind in enumerate(KINDS):
            for name in PLAIN[kind][:2]:
                yard.join(net, name)
        for number in range(600):
            net = chance.randrange(4)
            kind = KINDS[net]
            ann, bob = PLAIN[kind][:2]
            deed = chance.choice(["send", "cry", "come", "come", "come", "come", "lose", "double", "bend", "introduce"])
            letter = chance.choice(["", "hi", "< a { b } > [12]", "-7 ; 8"])
            body = written_as(kind, lessened(read(letter), kind)[0])
            if deed == "send":
                ticket = yard.send(net, (number, ann, bob, None, False, body))
                self.says(desk, (f"send {net} {number} {ann} {bob} {letter}", f"ticket {ticket}"))
            elif deed == "cry":
                self.says(desk, (f"cry {net} {bob} {number} {letter}", f"ticket {yard.cry(net, bob, number, body)}"))
            elif deed == "introduce":
                other = chance.randrange(4)
                self.says(desk, (f"introduce {net} {ann} {other}", yard.introduce(net, ann, other)))
            elif yard.road(net):
                at = chance.randrange(len(yard.road(net)))
                told = getattr(yard, deed)(net, at)
                self.says(desk, (f"{deed} {net} {at}", self.shown(told)))
            self.check(desk, yard, net)

    def shown(self, told):
        if told is None:
            return "ok"
        if told[0] == "cried":
            return "cried" + "".join(";" + " ".join(map(str, one)) for one in told[1])
        return " ".join(map(str, told))

    def check(self, desk, yard, net):
        broken = [f"{ticket}:{','.join(map(str, missing))}" for ticket, missing in yard.broken(net)]
        self.says(desk, (f"road {net}", str(len(yard.road(net)))), (f"broken {net}", " ".join(broken) or "none"))
        for name in yard.members(net):
            inbox = yard.inbox(net, name)
            shown = "".join(f";{one[0]} {one[1]} {written(read_as(KINDS[net], one[5]))}" for one in inbox)
            self.says(desk, (f"inbox {net} {name}", f"{len(inbox)}{shown}"))


if __name__ == "__main__":
    unittest.main()
