"""Gangs and their order [8]."""

import copy
import itertools
import unittest

from makers import gang_of

from clusterhall.gangs import in_order, whole_of

GREAT = 10 ** 12


class WholeOf(unittest.TestCase):
    def test_all_tasks_together(self):
        self.assertEqual(whole_of(gang_of("a", many=3, want=(2, 5))), (6, 15))
        self.assertEqual(whole_of(gang_of("a", many=1, want=(2, 5))), (2, 5))

    def test_noughts_in_the_want(self):
        self.assertEqual(whole_of(gang_of("a", many=7, want=(0, 1, 0))), (0, 7, 0))

    def test_sixty_tasks_and_great_wants(self):
        self.assertEqual(whole_of(gang_of("a", many=60, want=(1,))), (60,))
        self.assertEqual(whole_of(gang_of("a", many=60, want=(GREAT, 0) * 4)), (60 * GREAT, 0) * 4)

    def test_nothing_but_tasks_and_want_counts(self):
        for rank, how, length in itertools.product((0, 9), ("any", "apart", "near", "wide"), (1, 10 ** 6)):
            gang = gang_of("ab", guild="cd", rank=rank, many=4, want=(3, 1), how=how, length=length)
            self.assertEqual(whole_of(gang), (12, 4))

    def test_it_is_an_amount(self):
        whole = whole_of(gang_of("a", many=2, want=(1, 0)))
        self.assertIs(type(whole), tuple)
        self.assertEqual([type(n) for n in whole], [int, int])


class InOrder(unittest.TestCase):
    def test_by_falling_rank(self):
        low, mid, high = gang_of("a", rank=0), gang_of("b", rank=4), gang_of("c", rank=9)
        self.assertEqual(in_order([(low, 1), (mid, 2), (high, 3)]), [high, mid, low])
        self.assertEqual(in_order([(mid, 3), (high, 1), (low, 2)]), [high, mid, low])

    def test_of_one_rank_by_rising_number(self):
        one, two, ten = gang_of("z", rank=3), gang_of("y", rank=3), gang_of("a", rank=3)
        for rows in itertools.permutations([(one, 1), (two, 2), (ten, 10)]):
            self.assertEqual(in_order(list(rows)), [one, two, ten])

    def test_rank_goes_ahead_of_number(self):
        rows = [(gang_of("a", rank=1), 4), (gang_of("b", rank=2), 9), (gang_of("c", rank=1), 3),
                (gang_of("d", rank=2), 7), (gang_of("e", rank=0), 1)]
        self.assertEqual([gang[0] for gang in in_order(rows)], ["d", "b", "c", "a", "e"])

    def test_names_guilds_and_lengths_are_nothing(self):
        rows = [(gang_of("b", guild="a", length=9), 1), (gang_of("a", guild="z", length=1), 2)]
        self.assertEqual([gang[0] for gang in in_order(rows)], ["b", "a"])

    def test_no_rows_at_all(self):
        self.assertEqual(in_order([]), [])
        self.assertIsNot(in_order([]), in_order([]))

    def test_the_rows_stay_as_they_were(self):
        rows = [(gang_of("a", rank=1), 2), (gang_of("b", rank=2), 1), (gang_of("c", rank=1), 0)]
        before = copy.deepcopy(rows)
        told = in_order(rows)
        self.assertEqual(rows, before)
        self.assertIsNot(told, rows)
        told.clear()
        self.assertEqual(rows, before)
        self.assertEqual([gang[0] for gang in in_order(rows)], ["b", "c", "a"])

    def test_the_gangs_themselves_are_told(self):
        gang = gang_of("a", guild="b", rank=7, many=2, want=(3, 4), how="near", length=5)
        told = in_order([(gang, 3)])
        self.assertIs(type(told), list)
        self.assertEqual(told, [("a", "b", 7, 2, (3, 4), "near", 5)])


if __name__ == "__main__":
    unittest.main()
