"""The refusals: how their classes stand to one another, and their fields [2]."""

import unittest

from clusterhall import errors
from clusterhall.errors import BadRow, HallError, NoPlan, TooMuch

PLAIN = ["Taken", "NoKey", "NoHouse", "NoGang", "NoGuild", "NoKind", "InUse", "TooMany", "Past"]
FIELDS = {"TooMuch": "time", "NoPlan": "counts", "BadRow": "row"}


def made(name):
    """An error of the class of that name."""
    if name in FIELDS:
        return getattr(errors, name)("words", 0)
    return getattr(errors, name)("words")


class Classes(unittest.TestCase):
    def test_hall_error_stands_straight_under_value_error(self):
        self.assertEqual(HallError.__bases__, (ValueError,))
        self.assertIsInstance(HallError("words"), ValueError)

    def test_each_stands_straight_under_hall_error(self):
        for name in PLAIN + list(FIELDS):
            with self.subTest(name=name):
                self.assertEqual(getattr(errors, name).__bases__, (HallError,))

    def test_each_is_none_of_the_others(self):
        names = PLAIN + list(FIELDS)
        self.assertEqual(len(names), 12)
        for name in names:
            error = made(name)
            self.assertIsInstance(error, HallError)
            self.assertIsInstance(error, ValueError)
            for other in names:
                with self.subTest(name=name, other=other):
                    self.assertEqual(isinstance(error, getattr(errors, other)), name == other)

    def test_each_can_be_raised_and_caught(self):
        for name in PLAIN + list(FIELDS):
            with self.subTest(name=name):
                with self.assertRaises(getattr(errors, name)):
                    raise made(name)


class Fields(unittest.TestCase):
    def test_time_is_the_one_handed_in(self):
        self.assertEqual(TooMuch("words", 0).time, 0)
        self.assertEqual(TooMuch("words", 2 * 10 ** 9).time, 2 * 10 ** 9)

    def test_counts_are_the_ones_handed_in(self):
        self.assertEqual(NoPlan("words", ()).counts, ())
        self.assertEqual(NoPlan("words", (("a", 1), ("b", 0))).counts, (("a", 1), ("b", 0)))

    def test_row_is_the_one_handed_in(self):
        self.assertEqual(BadRow("words", 0).row, 0)
        self.assertEqual(BadRow("words", 300).row, 300)

    def test_fields_are_each_errors_own(self):
        first = TooMuch("words", 3)
        second = TooMuch("words", 4)
        self.assertEqual((first.time, second.time), (3, 4))


if __name__ == "__main__":
    unittest.main()
