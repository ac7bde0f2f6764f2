"""The errors: their bases, their names and what they keep."""

import unittest

from laterepair import errors
from tests.helpers import ANY

ONE_PART = {
    "BadSpace": "part", "BadTick": "part", "BadPlan": "part", "BadRule": "part", "BadLosses": "value",
    "BadDelay": "value", "BadCount": "value", "BadStream": "part", "BadPacket": "part", "BadBench": "part",
    "BadCommand": "word", "BadName": "value", "NoName": "name", "NoPhase": "at",
}
TWO_PARTS = {"BadText": ("line", "word"), "TooMany": ("what", "most")}
NAMES = [*ONE_PART, *TWO_PARTS, "Nothing"]


class TestErrors(unittest.TestCase):

    def test_base_is_a_value_error(self):
        self.assertEqual(errors.RepairError.__bases__, (ValueError,))

    def test_each_is_directly_below_the_base(self):
        for name in NAMES:
            self.assertEqual(getattr(errors, name).__bases__, (errors.RepairError,), name)

    def test_each_is_caught_as_base_and_as_value_error(self):
        for name in NAMES:
            many = 0 if name == "Nothing" else 2 if name in TWO_PARTS else 1
            for base in (errors.RepairError, ValueError):
                with self.assertRaises(base):
                    raise getattr(errors, name)(*[1] * many)

    def test_one_argument_by_position_and_by_name(self):
        for name, part in ONE_PART.items():
            made = getattr(errors, name)
            for value in ANY:
                self.assertIs(getattr(made(value), part), value)
                self.assertIs(getattr(made(**{part: value}), part), value)
                self.assertEqual(list(vars(made(value))), [part])

    def test_two_arguments_by_position_and_by_name(self):
        for name, (first, second) in TWO_PARTS.items():
            made = getattr(errors, name)
            for value in ANY:
                for error in (made(value, 7), made(value, **{second: 7}), made(**{second: 7, first: value})):
                    self.assertIs(getattr(error, first), value)
                    self.assertEqual(getattr(error, second), 7)
                self.assertIs(getattr(made("x", value), second), value)

    def test_nothing_keeps_nothing(self):
        self.assertEqual(vars(errors.Nothing()), {})

    def test_shown_with_arguments(self):
        self.assertEqual(repr(errors.BadText(0, 1)), "BadText(0, 1)")
        self.assertEqual(repr(errors.BadPacket("parts")), "BadPacket('parts')")


if __name__ == "__main__":
    unittest.main()
