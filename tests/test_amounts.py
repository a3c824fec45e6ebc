"""Names and amounts [3], [4]."""

import itertools
import unittest

from clusterhall.amounts import (amount_fits, amount_least, amount_less, amount_sum, amount_times,
                                 is_name, most_times, nothing_of)

GREAT = 10 ** 12
SMALL = list(itertools.product(range(4), repeat=2))


class Names(unittest.TestCase):
    def test_names(self):
        for word in ["a", "z", "m", "ab", "zz", "abcdefgh", "ijklmnop", "qrstuvwx", "yzyzyzyz"]:
            with self.subTest(word=word):
                self.assertIs(is_name(word), True)

    def test_each_small_letter_is_a_name(self):
        for sign in "abcdefghijklmnopqrstuvwxyz":
            self.assertIs(is_name(sign), True)

    def test_words_with_which_rows_begin_are_names(self):
        for word in ["hall", "gang", "time", "now", "plan", "waiting", "takings", "fetches"]:
            self.assertIs(is_name(word), True)

    def test_length(self):
        self.assertIs(is_name(""), False)
        self.assertIs(is_name("abcdefgh"), True)
        self.assertIs(is_name("abcdefghi"), False)
        self.assertIs(is_name("a" * 100), False)

    def test_only_26_of_the_first_signs_are_names(self):
        signs = [chr(number) for number in range(3000)]
        self.assertEqual("".join(sign for sign in signs if is_name(sign)), "abcdefghijklmnopqrstuvwxyz")

    def test_other_signs_within_a_word(self):
        for word in ["A", "Z", "aB", "Ab", "ABC", "0", "a1", "1a", "9", " ", "a ", " a", "a b", "-", "a-b", "a-",
                     "_", "a_b", "\n", "a\n", "\na", "a\r", "a\t", "abcdefgh\n", "\nabcdefgh", "abcdefg\n",
                     "a.b", "a,b", "a:b", "a/b", "`", "{", "a\x00"]:
            with self.subTest(word=word):
                self.assertIs(is_name(word), False)

    def test_letters_beyond_a_to_z(self):
        for word in ["\u00e4", "\u00df", "a\u00e9", "\u0131", "\u017f", "\uff41", "\u0430", "\u03b1", "\u00aa",
                     "a\u0301", "\U0001d41a"]:
            with self.subTest(word=word):
                self.assertIs(is_name(word), False)


class Amounts(unittest.TestCase):
    def test_nothing_of(self):
        for wares in range(1, 9):
            self.assertEqual(nothing_of(wares), tuple([0] * wares))

    def test_sum(self):
        self.assertEqual(amount_sum((1,), (2,)), (3,))
        self.assertEqual(amount_sum((1, 0, 5), (2, 0, 7)), (3, 0, 12))
        self.assertEqual(amount_sum((GREAT, 0), (GREAT, 1)), (2 * GREAT, 1))
        self.assertEqual(amount_sum((1, 2, 3, 4, 5, 6, 7, 8), (8, 7, 6, 5, 4, 3, 2, 1)), (9,) * 8)

    def test_less(self):
        self.assertEqual(amount_less((3,), (2,)), (1,))
        self.assertEqual(amount_less((3, 5, 0), (3, 1, 0)), (0, 4, 0))
        self.assertEqual(amount_less((GREAT, 60 * GREAT), (1, GREAT)), (GREAT - 1, 59 * GREAT))
        self.assertEqual(amount_less((8, 7, 6, 5, 4, 3, 2, 1), (1,) * 8), (7, 6, 5, 4, 3, 2, 1, 0))

    def test_fits(self):
        self.assertIs(amount_fits((0,), (0,)), True)
        self.assertIs(amount_fits((2,), (2,)), True)
        self.assertIs(amount_fits((3,), (2,)), False)
        self.assertIs(amount_fits((1, 2, 3), (1, 2, 3)), True)
        self.assertIs(amount_fits((1, 3), (9, 2)), False)
        self.assertIs(amount_fits((3, 1), (2, 9)), False)
        self.assertIs(amount_fits((GREAT, 0), (GREAT, 0)), True)
        self.assertIs(amount_fits((GREAT + 1, 0), (GREAT, 0)), False)

    def test_fits_looks_at_each_of_eight_wares(self):
        self.assertIs(amount_fits((4,) * 8, (4,) * 8), True)
        for ware in range(8):
            more = tuple(5 if at == ware else 4 for at in range(8))
            self.assertIs(amount_fits(more, (4,) * 8), False)
            self.assertIs(amount_fits((4,) * 8, more), True)

    def test_times(self):
        self.assertEqual(amount_times((3,), 1), (3,))
        self.assertEqual(amount_times((3, 0, 1), 4), (12, 0, 4))
        self.assertEqual(amount_times((3, 7), 0), (0, 0))
        self.assertEqual(amount_times((GREAT, 1), 60), (60 * GREAT, 60))
        self.assertEqual(amount_times((1, 2, 3, 4, 5, 6, 7, 8), 2), (2, 4, 6, 8, 10, 12, 14, 16))

    def test_least(self):
        self.assertEqual(amount_least((3,), (2,)), (2,))
        self.assertEqual(amount_least((3, 1, 4), (2, 5, 4)), (2, 1, 4))
        self.assertEqual(amount_least((0, GREAT), (GREAT, 0)), (0, 0))
        self.assertEqual(amount_least((1, 9) * 4, (9, 1) * 4), (1,) * 8)

    def test_small_amounts_agree_with_one_another(self):
        for one, other in itertools.product(SMALL, SMALL):
            both = amount_sum(one, other)
            self.assertEqual(both, (one[0] + other[0], one[1] + other[1]))
            self.assertEqual(amount_less(both, other), one)
            self.assertEqual(amount_least(one, other), (min(one[0], other[0]), min(one[1], other[1])))
            self.assertIs(amount_fits(one, other), one[0] <= other[0] and one[1] <= other[1])


class MostTimes(unittest.TestCase):
    def test_one_ware(self):
        self.assertEqual(most_times((3,), (9,)), 3)
        self.assertEqual(most_times((3,), (11,)), 3)
        self.assertEqual(most_times((3,), (2,)), 0)
        self.assertEqual(most_times((3,), (0,)), 0)
        self.assertEqual(most_times((1,), (GREAT,)), GREAT)

    def test_the_scarcest_ware_counts(self):
        self.assertEqual(most_times((2, 3), (10, 9)), 3)
        self.assertEqual(most_times((2, 3), (5, 90)), 2)
        self.assertEqual(most_times((1, 1, 1, 1, 1, 1, 1, 2), (9, 8, 7, 9, 9, 9, 9, 9)), 4)

    def test_noughts(self):
        self.assertEqual(most_times((0, 2), (0, 7)), 3)
        self.assertEqual(most_times((2, 0), (7, 0)), 3)
        self.assertEqual(most_times((0, 2), (5, 7)), 3)
        self.assertEqual(most_times((2, 0), (0, 7)), 0)
        self.assertEqual(most_times((0, 1, 0), (0, 0, 0)), 0)

    def test_great_numbers(self):
        self.assertEqual(most_times((GREAT, GREAT), (60 * GREAT, 60 * GREAT - 1)), 59)
        self.assertEqual(most_times((7, 0), (GREAT, 0)), GREAT // 7)

    def test_it_is_the_greatest_number_that_fits(self):
        for want, room in itertools.product(SMALL[1:], itertools.product(range(8), repeat=2)):
            n = most_times(want, room)
            self.assertTrue(amount_fits(amount_times(want, n), room))
            self.assertFalse(amount_fits(amount_times(want, n + 1), room))


class Kinds(unittest.TestCase):
    def test_amounts_are_tuples_of_numbers(self):
        told = [nothing_of(2), amount_sum((1, 2), (3, 4)), amount_less((3, 4), (1, 2)), amount_times((1, 2), 3),
                amount_times((1, 2), 0), amount_least((1, 4), (3, 2))]
        for amount in told:
            with self.subTest(amount=amount):
                self.assertIs(type(amount), tuple)
                self.assertEqual([type(number) for number in amount], [int, int])

    def test_most_times_is_a_number(self):
        self.assertIs(type(most_times((1, 0), (1, 1))), int)


if __name__ == "__main__":
    unittest.main()
