"""The refusals: what they stand under, and the field of the two that have one."""

import unittest

from doorkinds import errors

NAMES = (
    "NoPath NotCarried NoBody NoSide NoName Bound Feigned NoPair Full NoThing Barred Again Stray "
    "NoYard NoNet Known NoMember NoWay NoPlace NoTicket NoRow"
).split()


class Errors(unittest.TestCase):
    def test_all_stand_straight_under_their_own(self):
        self.assertEqual(errors.DoorError.__bases__, (ValueError,))
        for name in NAMES:
            with self.subTest(name=name):
                refusal = getattr(errors, name)
                self.assertEqual(refusal.__name__, name)
                self.assertEqual(refusal.__bases__, (errors.DoorError,))
                self.assertEqual(refusal.__module__, "doorkinds.errors")

    def test_each_is_a_class_of_its_own(self):
        self.assertEqual(len(NAMES), 21)
        self.assertEqual(len({getattr(errors, name) for name in NAMES}), 21)

    def test_at_tells_the_path_or_the_number(self):
        for refusal, at in [
            (errors.NotCarried, (0,)), (errors.NotCarried, (2, 0, 11)), (errors.NotCarried, ()),
            (errors.Barred, 0), (errors.Barred, 7),
        ]:
            with self.subTest(refusal=refusal, at=at):
                self.assertEqual(refusal(at).at, at)
                with self.assertRaises(refusal) as caught:
                    raise refusal(at)
                self.assertEqual(caught.exception.at, at)
                self.assertIsInstance(caught.exception.at, type(at))
                self.assertIsInstance(str(caught.exception), str)

    def test_the_others_are_made_of_a_text(self):
        for name in NAMES + ["DoorError"]:
            if name in ("NotCarried", "Barred"):
                continue
            with self.subTest(name=name):
                refusal = getattr(errors, name)
                with self.assertRaises(refusal) as caught:
                    raise refusal("why")
                self.assertEqual(str(caught.exception), "why")
                self.assertFalse(hasattr(caught.exception, "at"))

    def test_none_is_caught_as_another(self):
        for name in NAMES:
            made = getattr(errors, name)("0")
            for other in NAMES:
                self.assertEqual(isinstance(made, getattr(errors, other)), name == other)
            self.assertIsInstance(made, errors.DoorError)
            self.assertIsInstance(made, ValueError)


if __name__ == "__main__":
    unittest.main()
