"""Promises 4, 5 and 6: kinds, words, names, the doors' own names."""

import copy
import itertools
import unittest

from doorkinds.kinds import is_kind, is_name, is_word, own_name, owner_of
from oddities import ANYTHING, NO_TEXTS, SIGNS

KINDS = ("letters", "calls", "pages", "sounds")

GOOD = {
    "letters": ["a@b", "ann@hill", "abcdefgh@ijklmnop", "z@doora", "a@abcdefgh", "abcdefgh@a", "someone@word"],
    "calls": ["+000", "+123", "+123456789", "+012", "+9012", "+99999", "+900000000"],
    "pages": ["/a", "/hill", "/hill/ann", "/a/b/c", "/abcdefgh/ijklmnop/qrstuvwx", "/doora/c"],
    "sounds": ["a-b", "c-e-g", "g-a-b-f", "a-a-a-a-a-a", "g-g", "a-b-c-d-e-f"],
}

BAD = {
    "letters": [
        "", "a", "@", "a@", "@b", "a@@b", "a@b@c", "@a@b", "a@b@", "abcdefghi@a", "a@abcdefghi", "Ann@hill",
        "ann@Hill", "ann@hill ", " ann@hill", "ann @hill", "ann@hill\n", "\nann@hill", "ann\n@hill", "ann1@hill",
        "ann@h1ll", "ann.hill", "ann/hill", "ann-hill", "annhill", "someone",
    ],
    "calls": [
        "", "+", "+1", "+12", "+1234567890", "123", "1234", "-123", "++123", "+12+", "+12a", "+a12", "+1a2",
        "+1 2", "+12 ", " +123", "+123\n", "\n+123", "+12\n", "+-12", "+1.2", "+1_2", "123+",
    ],
    "pages": [
        "", "/", "//", "a", "a/b", "/a/", "/a//b", "//a", "/a/b/c/d", "/a/b/c/", "/abcdefghi", "/a/abcdefghi",
        "/a/b/abcdefghi", "/A", "/a/B", "/a1", "/a b", "/a ", " /a", "/a\n", "\n/a", "/a\n/b", "/a/b/c\n",
    ],
    "sounds": [
        "", "a", "-", "a-", "-a", "a--b", "a-b-", "-a-b", "a-h", "h-a", "a-z", "ab", "ab-c", "a-bc", "a-b-c-d-e-f-g",
        "a-b-c-d-e-f-", "A-b", "a-B", "a-1", "a b", "a- b", "a-b ", " a-b", "a-b\n", "\na-b", "a\n-b", "a-@",
        "a-A",
    ],
}

# Each of these numbers by its word and by its letters of sounds.
WRITTEN = {
    0: ("a", "a"), 6: ("g", "g"), 7: ("h", "b-a"), 12: ("m", "b-f"), 25: ("z", "d-e"), 26: ("aa", "d-f"),
    48: ("aw", "g-g"), 49: ("ax", "b-a-a"), 51: ("az", "b-a-c"), 52: ("ba", "b-a-d"), 342: ("me", "g-g-g"),
    343: ("mf", "b-a-a-a"), 701: ("zz", "c-a-c-b"), 702: ("aaa", "c-a-c-c"), 2400: ("cni", "g-g-g-g"),
}


def expected(kind, door, k):
    word, tones = WRITTEN[k]
    letter = "abcdefg"[door]
    return {
        "letters": word + "@door" + letter,
        "calls": "+9" + "0123456"[door] + str(k),
        "pages": "/door" + letter + "/" + word,
        "sounds": "g-" + letter + "-" + tones,
    }[kind]


class IsKind(unittest.TestCase):
    def test_the_four(self):
        for kind in KINDS:
            self.assertIs(is_kind(kind), True)

    def test_nearly_a_kind(self):
        for kind in KINDS:
            for near in [
                kind + "s", kind + "\n", kind + " ", " " + kind, "a" + kind, kind[:-1], kind[1:], kind.upper(),
                kind.title(), kind + kind, kind[:2] + " " + kind[2:],
            ]:
                with self.subTest(near=near):
                    self.assertIs(is_kind(near), False)

    def test_anything(self):
        for thing in ANYTHING:
            if thing != "letters":
                self.assertIs(is_kind(thing), False)


class IsWord(unittest.TestCase):
    def test_one_to_eight_letters(self):
        for many in range(0, 12):
            for letter in "abcdefghijklmnopqrstuvwxyz":
                self.assertIs(is_word(letter * many), 1 <= many <= 8)
        self.assertIs(is_word("abcdefgh"), True)
        self.assertIs(is_word("ijklmnop"), True)
        self.assertIs(is_word("qrstuvwx"), True)
        self.assertIs(is_word("yz"), True)
        self.assertIs(is_word("abcdefghi"), False)

    def test_other_signs_at_each_place(self):
        for sign in SIGNS:
            is_letter = sign in list("abcdefghijklmnopqrstuvwxyz")
            for text in [sign, sign + "ab", "a" + sign + "b", "ab" + sign, sign + "abcdefg", "abcdefg" + sign]:
                with self.subTest(text=text):
                    self.assertIs(is_word(text), is_letter)

    def test_no_text(self):
        for thing in NO_TEXTS:
            self.assertIs(is_word(thing), False)
        for thing in [["a"], ("a", "b"), {"a": 1}, {"a"}, b"a", list("abc")]:
            self.assertIs(is_word(thing), False)


class IsName(unittest.TestCase):
    def test_names(self):
        for kind in KINDS:
            for name in GOOD[kind]:
                with self.subTest(kind=kind, name=name):
                    self.assertIs(is_name(kind, name), True)

    def test_no_names(self):
        for kind in KINDS:
            for text in BAD[kind]:
                with self.subTest(kind=kind, text=text):
                    self.assertIs(is_name(kind, text), False)

    def test_names_of_another_kind(self):
        for kind in KINDS:
            for other in KINDS:
                if other != kind:
                    for name in GOOD[other]:
                        self.assertIs(is_name(kind, name), False)

    def test_each_sign_at_each_place(self):
        fitting = {
            "letters": ("an@hi", {0: "az", 1: "az", 2: "@@", 3: "az", 4: "az"}),
            "calls": ("+123", {0: "++", 1: "09", 2: "09", 3: "09"}),
            "pages": ("/ab/c", {0: "//", 1: "az", 2: "az", 3: "az/", 4: "az"}),
            "sounds": ("a-g", {0: "ag", 1: "--", 2: "ag"}),
        }
        for kind in KINDS:
            name, places = fitting[kind]
            for place, bounds in places.items():
                for sign in SIGNS:
                    changed = name[:place] + sign + name[place + 1:]
                    fits = bounds[0] <= sign <= bounds[1] or sign in bounds[2:]
                    with self.subTest(kind=kind, changed=changed):
                        self.assertIs(is_name(kind, changed), fits)

    def test_lengths_of_words(self):
        for first in range(0, 11):
            for second in range(0, 11):
                fits = 1 <= first <= 8 and 1 <= second <= 8
                self.assertIs(is_name("letters", "q" * first + "@" + "z" * second), fits)
                self.assertIs(is_name("pages", "/" + "q" * first + "/" + "z" * second), fits)
                self.assertIs(is_name("pages", "/a/" + "q" * first + "/" + "z" * second), fits)

    def test_numbers_of_parts(self):
        for many in range(0, 12):
            self.assertIs(is_name("letters", "@".join(["ann"] * many)), many == 2)
            self.assertIs(is_name("calls", "+" + "7" * many), 3 <= many <= 9)
            self.assertIs(is_name("pages", "/hill" * many), 1 <= many <= 3)
            self.assertIs(is_name("sounds", "-".join("c" * many)), 2 <= many <= 6)

    def test_no_text(self):
        for kind in KINDS:
            for thing in NO_TEXTS:
                self.assertIs(is_name(kind, thing), False)
            for name in GOOD[kind]:
                for thing in [[name], (name,), {name: name}, list(name), tuple(name), name.encode("ascii")]:
                    self.assertIs(is_name(kind, thing), False)

    def test_asking_changes_nothing(self):
        before = copy.deepcopy(NO_TEXTS)
        for thing in NO_TEXTS:
            is_kind(thing)
            is_word(thing)
            for kind in KINDS:
                is_name(kind, thing)
                owner_of(kind, thing)
        self.assertEqual(NO_TEXTS, before)


class OwnNames(unittest.TestCase):
    def test_those_that_the_document_shows(self):
        self.assertEqual(own_name("letters", 0, 2), "c@doora")
        self.assertEqual(own_name("calls", 0, 12), "+9012")
        self.assertEqual(own_name("sounds", 0, 12), "g-a-b-f")
        self.assertEqual(own_name("pages", 6, 2), "/doorg/c")

    def test_numbers_of_each_kind_and_door(self):
        for kind in KINDS:
            for door in range(7):
                for k in WRITTEN:
                    with self.subTest(kind=kind, door=door, k=k):
                        self.assertEqual(own_name(kind, door, k), expected(kind, door, k))

    def test_the_words_in_their_order(self):
        letters = "abcdefghijklmnopqrstuvwxyz"
        words = []
        for many in (1, 2, 3):
            words.extend("".join(signs) for signs in itertools.product(letters, repeat=many))
        for k in range(2401):
            self.assertEqual(own_name("letters", 3, k), words[k] + "@doord")
            self.assertEqual(own_name("pages", 3, k), "/doord/" + words[k])

    def test_the_digits_to_seven_in_their_order(self):
        tones = ["-".join(signs).lstrip("a-") or "a" for signs in itertools.product("abcdefg", repeat=4)]
        for k in range(2401):
            self.assertEqual(own_name("sounds", 5, k), "g-f-" + tones[k])

    def test_each_is_a_name_led_back_and_none_like_another(self):
        for kind in KINDS:
            seen = set()
            for door in range(7):
                for k in range(2401):
                    name = own_name(kind, door, k)
                    self.assertIs(is_name(kind, name), True)
                    self.assertEqual(owner_of(kind, name), (door, k))
                    seen.add(name)
            self.assertEqual(len(seen), 7 * 2401)

    def test_told_is_a_tuple_of_whole_numbers(self):
        for kind in KINDS:
            told = owner_of(kind, own_name(kind, 1, 0))
            self.assertEqual(told, (1, 0))
            self.assertIs(type(told), tuple)
            self.assertEqual([type(number) for number in told], [int, int])


class OwnerOfNone(unittest.TestCase):
    def none_of(self, kind, names):
        for name in names:
            with self.subTest(kind=kind, name=name):
                self.assertIsNone(owner_of(kind, name))

    def test_noughts_ahead(self):
        self.none_of("calls", ["+9000", "+9001", "+90012", "+96001", "+90002400"])
        self.none_of("sounds", ["g-a-a-a", "g-a-a-b", "g-a-a-b-f", "g-g-a-a-a-b", "g-a-a-g-g-g"])

    def test_beyond_the_last_door(self):
        self.none_of("letters", ["a@doorh", "c@doorz", "a@door", "a@dooraa", "a@doorga"])
        self.none_of("calls", ["+970", "+980", "+990", "+9712"])
        self.none_of("pages", ["/doorh/a", "/doorz/c", "/door/a", "/dooraa/a"])
        self.none_of("sounds", ["g-h-a", "a-a-a", "f-a-a"])

    def test_beyond_the_last_number(self):
        self.none_of("letters", ["cnj@doora", "zzz@doorb", "aaaa@doora", "zzzzzzzz@doorg", "coa@doora", "daa@doora"])
        self.none_of("calls", ["+902401", "+909999", "+9010000", "+929999999", "+962401"])
        self.none_of("pages", ["/doora/cnj", "/doora/zzz", "/doorg/aaaa", "/doora/zzzzzzzz"])
        self.none_of("sounds", ["g-a-b-a-a-a-a", "g-a-b-a-a-a-b", "g-g-g-g-g-g-g"])

    def test_other_names(self):
        self.none_of("letters", ["ann@hill", "a@b", "doora@c", "a@adoora", "doora@b"])
        self.none_of("calls", ["+123", "+8012", "+012", "+000", "+890", "+090"])
        self.none_of("pages", ["/hill/ann", "/doora", "/doorg", "/doora/a/b", "/doora/a/a", "/x/doora/a", "/a/doora"])
        self.none_of("sounds", ["c-e-g", "g-a", "g-g", "a-g-a", "g-c"])

    def test_nearly_written_so(self):
        for kind in KINDS:
            for name in [own_name(kind, 0, 2), own_name(kind, 6, 2400), own_name(kind, 3, 702)]:
                self.none_of(kind, [
                    name + " ", " " + name, name + "\n", "\n" + name, name.upper() + "A", name[:-1] + "\n",
                    "+" + name, "@" + name, "/" + name, "-" + name, name + "@", name + "/", name + "-", name + "+",
                ])

    def test_own_names_of_another_kind(self):
        for kind in KINDS:
            for other in KINDS:
                if other != kind:
                    self.none_of(kind, [own_name(other, door, k) for door in range(7) for k in WRITTEN])

    def test_anything(self):
        for kind in KINDS:
            self.none_of(kind, ANYTHING)
            name = own_name(kind, 0, 1)
            self.none_of(kind, [[name], (name,), {name: 1}, list(name), name.encode("ascii"), (0, 1)])

    def test_only_what_is_written_so_at_each_place(self):
        for kind in KINDS:
            own = {own_name(kind, door, k): (door, k) for door in range(7) for k in range(2401)}
            for name in [own_name(kind, 0, 2), own_name(kind, 4, 60), own_name(kind, 6, 2400)]:
                for place in range(len(name)):
                    for sign in SIGNS:
                        for changed in [name[:place] + sign + name[place + 1:], name[:place] + sign + name[place:]]:
                            self.assertEqual(owner_of(kind, changed), own.get(changed))
                    shorter = name[:place] + name[place + 1:]
                    self.assertEqual(owner_of(kind, shorter), own.get(shorter))


if __name__ == "__main__":
    unittest.main()
