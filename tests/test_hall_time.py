"""The hall: how time goes on [18], and the rounds [20]."""

import random
import unittest

from makers import all_of_hall, gang_of, hall_of

from clusterhall.errors import Past
from clusterhall.hall import Hall


def names_of(gangs):
    return [gang[0] for gang in gangs]


def numbers_of(hall):
    return [(gang[0], number) for gang, number in hall.share_rows()]


class Stops(unittest.TestCase):
    def test_nothing_to_stop_at(self):
        hall = hall_of(("o", "x", (4,)))
        self.assertEqual(hall.step(("time", 100000)), [])
        self.assertEqual(hall.time_now(), 100000)

    def test_a_time_that_is_now(self):
        hall = hall_of(("o", "x", (4,)))
        self.assertEqual(hall.step(("time", 0)), [])
        hall.step(("gang", gang_of("a", length=7)))
        hall.step(("time", 6))
        before = all_of_hall(hall)
        self.assertEqual(hall.step(("time", 6)), [])
        self.assertEqual(all_of_hall(hall), before)
        self.assertEqual(hall.step(("time", 7)), [("ended", 7, "a")])
        self.assertEqual(hall.step(("time", 7)), [])

    def test_a_time_below_now(self):
        hall = hall_of(("o", "x", (4,)))
        hall.step(("gang", gang_of("a", length=7)))
        hall.step(("time", 6))
        before = all_of_hall(hall)
        for time in (5, 0):
            with self.assertRaises(Past):
                hall.step(("time", time))
            self.assertEqual(all_of_hall(hall), before)

    def test_ends_and_begins_at_their_times(self):
        hall = hall_of(("o", "x", (4,)))
        hall.step(("gang", gang_of("a", many=4, length=7)))
        hall.step(("plan", gang_of("b", many=4, length=3), 9))
        hall.step(("gang", gang_of("c", many=1, length=2)))
        hall.step(("gang", gang_of("d", many=1, length=3)))
        self.assertEqual(hall.step(("time", 6)), [])
        self.assertEqual(hall.step(("time", 11)), [
            ("ended", 7, "a"), ("begun", 7, "c", (("o", 1),)),
            ("ended", 9, "c"), ("begun", 9, "b", (("o", 4),))])
        self.assertEqual(hall.time_now(), 11)
        self.assertEqual(hall.step(("time", 12)), [("ended", 12, "b"), ("begun", 12, "d", (("o", 1),))])

    def test_an_end_less_grace(self):
        # c needs the room of a, which can't be taken, and of b, which can: so it is called five ahead of a's end.
        hall = hall_of(("o", "x", (4,)), g=(2,), h=(0,))
        hall.step(("gang", gang_of("a", many=2, length=20)))
        hall.step(("gang", gang_of("b", guild="h", rank=1, many=2, length=100)))
        self.assertEqual(hall.step(("gang", gang_of("c", guild="h", rank=5, many=4))), [])
        self.assertEqual(hall.step(("time", 14)), [])
        self.assertEqual(hall.step(("time", 30)), [
            ("called", 15, "c", 20, (("o", 4),), (("b", "rank"),)),
            ("ended", 20, "a"), ("left", 20, "b"), ("begun", 20, "c", (("o", 4),)),
            ("ended", 30, "c"), ("begun", 30, "b", (("o", 2),))])

    def test_grace_of_one_and_a_long_one(self):
        for grace, when in ((1, 19), (20, 0), (19, 1), (1000, None)):
            hall = hall_of(("o", "x", (4,)), grace=grace, g=(2,), h=(0,))
            hall.step(("gang", gang_of("a", many=2, length=20)))
            hall.step(("gang", gang_of("b", guild="h", rank=1, many=2, length=100)))
            hall.step(("gang", gang_of("c", guild="h", rank=5, many=4)))
            hall.step(("time", 30))
            calls = [row[:4] for row in hall.history_rows() if row[0] == "called"]
            self.assertEqual(calls, [] if when is None else [("called", when, "c", when + grace)])

    def test_ends_nearer_than_grace_are_stops_too(self):
        hall = hall_of(("o", "x", (2,)), grace=100)
        for name, length in (("a", 3), ("b", 8), ("c", 5)):
            hall.step(("gang", gang_of(name, length=length)))
        self.assertEqual(hall.step(("time", 20)), [
            ("ended", 3, "a"), ("begun", 3, "c", (("o", 1),)), ("ended", 8, "b"), ("ended", 8, "c")])

    def test_a_stop_at_the_told_time(self):
        hall = hall_of(("o", "x", (1,)), g=(2,), h=(0,))
        hall.step(("gang", gang_of("a", length=20)))
        hall.step(("gang", gang_of("b", length=20)))
        self.assertEqual(hall.step(("time", 20)), [("ended", 20, "a"), ("begun", 20, "b", (("o", 1),))])

    def test_far_times(self):
        hall = hall_of(("o", "x", (1,)))
        hall.step(("time", 10 ** 9 - 5))
        hall.step(("gang", gang_of("a", length=10 ** 6)))
        self.assertEqual(hall.gang_rows(), [("a", "goes", 10 ** 9 - 5, 10 ** 9 - 5 + 10 ** 6, (("o", 1),))])
        self.assertEqual(hall.step(("time", 10 ** 9)), [])


class OrderAtAStop(unittest.TestCase):
    def test_left_and_ended_ones_by_names_then_begun_ones_then_the_round(self):
        hall = hall_of(("o", "x", (9,)))
        hall.step(("gang", gang_of("m", many=1, length=25)))
        hall.step(("gang", gang_of("b", many=1, length=25)))
        hall.step(("plan", gang_of("k", many=2, length=9), 25))
        hall.step(("plan", gang_of("a", many=1, length=9), 25))
        hall.step(("gang", gang_of("c", many=3, length=60)))
        hall.step(("gang", gang_of("n", many=3, length=60)))
        hall.step(("time", 20))
        told = hall.step(("gang", gang_of("j", rank=4, many=6, length=9)))
        self.assertEqual(told, [("called", 20, "j", 25, (("o", 6),), (("n", "rank"), ("c", "rank")))])
        hall.step(("gang", gang_of("z", many=9, length=4, rank=1)))
        self.assertEqual(hall.step(("time", 25)), [
            ("ended", 25, "b"), ("left", 25, "c"), ("ended", 25, "m"), ("left", 25, "n"),
            ("begun", 25, "a", (("o", 1),)), ("begun", 25, "j", (("o", 6),)), ("begun", 25, "k", (("o", 2),))])
        self.assertEqual(names_of(hall.waiting_gangs()), ["z", "c", "n"])
        self.assertEqual(hall.step(("time", 34)), [
            ("ended", 34, "a"), ("ended", 34, "j"), ("ended", 34, "k"), ("begun", 34, "z", (("o", 9),))])

    def test_the_round_behind_begun_ones(self):
        hall = hall_of(("o", "x", (4,)))
        hall.step(("gang", gang_of("b", many=3, length=10)))
        hall.step(("plan", gang_of("p", many=3, length=10), 10))
        hall.step(("gang", gang_of("a", many=1, length=20)))
        hall.step(("gang", gang_of("c", many=2, length=20)))
        hall.step(("quit", "a"))
        hall.step(("gang", gang_of("d", many=1, length=11)))
        hall.step(("gang", gang_of("e", many=1, length=11)))
        self.assertEqual(hall.step(("time", 10)), [("ended", 10, "b"), ("begun", 10, "p", (("o", 3),))])
        self.assertEqual(hall.step(("time", 11)), [("ended", 11, "d"), ("begun", 11, "e", (("o", 1),))])


class Leaving(unittest.TestCase):
    def hall(self):
        """a goes, told first; w waits, told as the second one; c is called, and takes from a."""
        hall = hall_of(("o", "x", (4,)))
        hall.step(("gang", gang_of("a", rank=2, many=4, length=30)))
        hall.step(("gang", gang_of("w", rank=2, many=4, length=30)))
        hall.step(("time", 3))
        hall.step(("gang", gang_of("c", rank=3, many=3, length=30)))
        return hall

    def test_told_to_leave(self):
        hall = self.hall()
        self.assertEqual(hall.history_rows()[-1], ("called", 3, "c", 8, (("o", 3),), (("a", "rank"),)))
        self.assertEqual(hall.gang_rows(), [("a", "leaves", 0, 8, (("o", 4),)), ("c", "called", 8, 38, (("o", 3),)),
                                            ("w", "waits", None, None, ())])
        self.assertEqual(hall.taking_rows(), [("a", "c", "rank", 8)])
        self.assertEqual(numbers_of(hall), [("c", 2)])
        self.assertEqual(hall.leavable_names(), [])

    def test_one_that_left_waits_with_its_told_number(self):
        hall = self.hall()
        self.assertEqual(names_of(hall.waiting_gangs()), ["w"])
        self.assertEqual(hall.step(("time", 8)), [("left", 8, "a"), ("begun", 8, "c", (("o", 3),))])
        self.assertEqual(names_of(hall.waiting_gangs()), ["a", "w"])
        self.assertEqual(hall.taking_rows(), [])
        self.assertEqual(numbers_of(hall), [("c", 2)])
        self.assertEqual(hall.leavable_names(), ["c"])

    def test_it_begins_again_for_its_whole_length(self):
        hall = self.hall()
        self.assertEqual(hall.step(("time", 100)), [
            ("left", 8, "a"), ("begun", 8, "c", (("o", 3),)), ("ended", 38, "c"), ("begun", 38, "a", (("o", 4),)),
            ("ended", 68, "a"), ("begun", 68, "w", (("o", 4),)), ("ended", 98, "w")])

    def test_it_begins_with_a_new_number(self):
        hall = self.hall()
        hall.step(("time", 40))
        self.assertEqual(numbers_of(hall), [("a", 3)])
        hall.step(("time", 70))
        self.assertEqual(numbers_of(hall), [("w", 4)])


class BegunNumbers(unittest.TestCase):
    def test_by_the_order_in_which_they_begin_or_are_called(self):
        hall = hall_of(("o", "x", (9,)))
        hall.step(("plan", gang_of("p", length=100), 4))
        hall.step(("plan", gang_of("n", length=100), 4))
        hall.step(("gang", gang_of("b", many=6, length=100)))
        hall.step(("gang", gang_of("a", length=100)))
        self.assertEqual(numbers_of(hall), [("b", 1), ("a", 2)])
        hall.step(("gang", gang_of("c", rank=1, many=6, length=100)))
        self.assertEqual(numbers_of(hall), [("a", 2), ("c", 3)])
        self.assertEqual(hall.leavable_names(), ["a"])
        hall.step(("time", 4))
        self.assertEqual(numbers_of(hall), [("a", 2), ("c", 3), ("n", 4), ("p", 5)])
        self.assertEqual(hall.leavable_names(), ["a", "n", "p"])
        hall.step(("time", 5))
        self.assertEqual(numbers_of(hall), [("a", 2), ("c", 3), ("n", 4), ("p", 5)])
        self.assertEqual(hall.leavable_names(), ["a", "c", "n", "p"])

    def test_a_planned_one_has_none_until_it_begins(self):
        hall = hall_of(("o", "x", (9,)))
        hall.step(("plan", gang_of("p"), 4))
        self.assertEqual(hall.share_rows(), [])
        hall.step(("gang", gang_of("a")))
        hall.step(("time", 4))
        self.assertEqual(numbers_of(hall), [("a", 1), ("p", 2)])

    def test_a_called_ones_number_decides_who_is_own(self):
        # Of one rank the earlier number is own: c was called ahead of d, which began ahead of it.
        hall = hall_of(("o", "x", (4,)), ("p", "y", (4,)), g=(4,), h=(0,), i=(4,))
        hall.step(("gang", gang_of("a", guild="h", many=4, length=90)))
        hall.step(("shut", "p"))
        hall.step(("gang", gang_of("c", many=4, length=90)))
        hall.step(("open", "p"))
        hall.step(("gang", gang_of("d", many=4, length=90)))
        hall.step(("time", 5))
        self.assertEqual(numbers_of(hall), [("c", 2), ("d", 3)])
        told = hall.step(("gang", gang_of("z", guild="i", many=4)))
        self.assertEqual(told, [("called", 5, "z", 10, (("p", 4),), (("d", "share"),))])


class Rounds(unittest.TestCase):
    def test_the_order_of_those_that_wait(self):
        hall = hall_of(("o", "x", (2,)))
        hall.step(("gang", gang_of("x", rank=9, many=2, length=20)))
        for name, rank in (("d", 1), ("c", 3), ("b", 1), ("a", 3), ("e", 2)):
            hall.step(("gang", gang_of(name, rank=rank, length=5)))
        self.assertEqual(names_of(hall.waiting_gangs()), ["c", "a", "e", "d", "b"])
        hall.step(("time", 19))
        self.assertEqual(hall.step(("time", 20)), [
            ("ended", 20, "x"), ("begun", 20, "c", (("o", 1),)), ("begun", 20, "a", (("o", 1),))])
        self.assertEqual(names_of(hall.waiting_gangs()), ["e", "d", "b"])

    def test_one_begins_behind_one_that_does_not(self):
        hall = hall_of(("o", "x", (4,)))
        hall.step(("gang", gang_of("a", rank=9, many=3, length=20)))
        hall.step(("gang", gang_of("b", rank=5, many=3)))
        self.assertEqual(hall.step(("gang", gang_of("c", rank=0))), [("begun", 0, "c", (("o", 1),))])
        self.assertEqual(names_of(hall.waiting_gangs()), ["b"])

    def test_called_by_rank(self):
        hall = hall_of(("o", "x", (4,)))
        hall.step(("gang", gang_of("a", rank=1, many=2, length=50)))
        hall.step(("gang", gang_of("b", rank=0, many=2, length=50)))
        self.assertEqual(hall.step(("gang", gang_of("c", rank=1, many=2))),
                         [("called", 0, "c", 5, (("o", 2),), (("b", "rank"),))])
        self.assertEqual(hall.step(("gang", gang_of("d", rank=1, many=2))), [])
        self.assertEqual(hall.step(("gang", gang_of("e", rank=2, many=2))),
                         [("called", 0, "e", 5, (("o", 2),), (("a", "rank"),))])

    def test_called_by_share(self):
        hall = hall_of(("o", "x", (4,)), g=(0,), h=(3,))
        hall.step(("gang", gang_of("a", rank=9, many=4, length=50)))
        self.assertEqual(hall.step(("gang", gang_of("b", guild="h", many=4))), [])
        self.assertEqual(hall.step(("gang", gang_of("c", guild="h", many=3))),
                         [("called", 0, "c", 5, (("o", 3),), (("a", "share"),))])

    def test_called_by_both(self):
        # Rising ranks, of one rank the later number first; of its own guild by rank, of others by share.
        hall = hall_of(("o", "x", (6,)), g=(0,), h=(4,))
        hall.step(("gang", gang_of("a", rank=2, many=2, length=50)))
        hall.step(("gang", gang_of("b", guild="h", rank=0, want=(2,), length=50)))
        hall.step(("gang", gang_of("c", rank=0, many=2, length=50)))
        told = hall.step(("gang", gang_of("z", guild="h", rank=1, want=(2,), many=2, length=9)))
        self.assertEqual(told, [("called", 0, "z", 5, (("o", 2),), (("c", "rank"), ("b", "rank")))])
        hall = hall_of(("o", "x", (6,)), g=(0,), h=(6,))
        hall.step(("gang", gang_of("a", rank=2, many=2, length=50)))
        hall.step(("gang", gang_of("b", guild="h", rank=0, want=(2,), length=50)))
        hall.step(("gang", gang_of("c", rank=0, many=2, length=50)))
        told = hall.step(("gang", gang_of("z", guild="h", rank=1, want=(2,), many=2, length=9)))
        self.assertEqual(told, [("called", 0, "z", 5, (("o", 2),), (("c", "share"), ("b", "rank")))])

    def test_only_those_that_have_to_leave(self):
        hall = hall_of(("o", "x", (2,)), ("p", "x", (4,)))
        hall.step(("gang", gang_of("a", many=2, length=50)))
        hall.step(("gang", gang_of("b", many=4, length=50)))
        hall.step(("gang", gang_of("c", rank=1, many=2, length=50)))
        self.assertEqual(hall.taking_rows(), [("b", "c", "rank", 5)])
        self.assertEqual(hall.leavable_names(), ["a"])

    def test_the_time_is_now_and_grace(self):
        hall = hall_of(("o", "x", (2,)), grace=30)
        hall.step(("gang", gang_of("a", many=2, length=500)))
        hall.step(("time", 7))
        self.assertEqual(hall.step(("gang", gang_of("b", rank=1))),
                         [("called", 7, "b", 37, (("o", 1),), (("a", "rank"),))])
        self.assertEqual(hall.gang_rows(), [("a", "leaves", 0, 37, (("o", 2),)), ("b", "called", 37, 47, (("o", 1),))])

    def test_one_that_could_begin_soon_waits_on(self):
        hall = hall_of(("o", "x", (2,)))
        hall.step(("gang", gang_of("a", rank=0, length=50)))
        hall.step(("gang", gang_of("b", rank=0, length=9)))
        hall.step(("time", 4))
        self.assertEqual(hall.step(("gang", gang_of("c", rank=9))), [])
        self.assertEqual(hall.step(("time", 9)), [("ended", 9, "b"), ("begun", 9, "c", (("o", 1),))])

    def test_one_told_to_leave_is_not_told_again(self):
        hall = hall_of(("o", "x", (4,)))
        hall.step(("gang", gang_of("a", many=4, length=50)))
        hall.step(("gang", gang_of("b", rank=1, many=3, length=50)))
        self.assertEqual(hall.step(("gang", gang_of("c", rank=1, many=2, length=50))), [])
        self.assertEqual(hall.step(("gang", gang_of("d", rank=1, many=1, length=50))), [])
        self.assertEqual(hall.step(("time", 5)), [
            ("left", 5, "a"), ("begun", 5, "b", (("o", 3),)), ("begun", 5, "d", (("o", 1),))])

    def test_none_is_called_from_a_called_one(self):
        hall = hall_of(("o", "x", (4,)))
        hall.step(("gang", gang_of("a", many=4, length=50)))
        hall.step(("gang", gang_of("b", rank=1, many=4, length=50)))
        self.assertEqual(hall.step(("gang", gang_of("c", rank=2, many=4, length=50))), [])
        self.assertEqual(hall.step(("time", 5)), [
            ("left", 5, "a"), ("begun", 5, "b", (("o", 4),)),
            ("called", 5, "c", 10, (("o", 4),), (("b", "rank"),))])

    def test_a_called_one_counts_for_shares(self):
        # c is called by the share of h, and with it the share is used: d may not take, too.
        hall = hall_of(("o", "x", (4,)), g=(0,), h=(2,))
        hall.step(("gang", gang_of("a", many=2, length=50)))
        hall.step(("gang", gang_of("b", many=2, length=50)))
        hall.step(("gang", gang_of("c", guild="h", many=2)))
        self.assertEqual(hall.step(("gang", gang_of("d", guild="h", many=1))), [])
        self.assertEqual([row[0] for row in hall.gang_rows() if row[1] == "called"], ["c"])
        hall.step(("guild", "h", (3,)))
        self.assertEqual(hall.history_rows()[-1][:3], ("called", 0, "d"))

    def test_another_round_behind_one_that_changed_something(self):
        # As b begins, l isn't h's own any more: so a, which was tried ahead of b, may take from l.
        hall = hall_of(("o", "x", (5,)), g=(4,), h=(4,))
        hall.step(("gang", gang_of("l", guild="h", rank=1, many=4, length=50)))
        self.assertEqual(hall.step(("gang", gang_of("a", rank=9, many=4))), [])
        self.assertEqual(hall.step(("gang", gang_of("b", guild="h", rank=3, length=50))), [
            ("begun", 0, "b", (("o", 1),)), ("called", 0, "a", 5, (("o", 4),), (("l", "share"),))])

    def test_a_round_at_the_told_time(self):
        # At 3 z could begin at 8 without any taking. At 4 that isn't so any more, as p begins at 18, and 4 is no
        # stop: so z is called just where a step comes there.
        def hall_at_three():
            hall = hall_of(("o", "x", (4,)))
            for name, rank, many, length in (("e", 9, 2, 8), ("n", 0, 1, 100)):
                hall.step(("gang", gang_of(name, rank=rank, many=many, length=length)))
            hall.step(("plan", gang_of("p"), 18))
            hall.step(("time", 3))
            self.assertEqual(hall.step(("gang", gang_of("z", rank=5, many=3))), [])
            return hall
        self.assertEqual(hall_at_three().step(("time", 8)), [("ended", 8, "e"), ("begun", 8, "z", (("o", 3),))])
        self.assertEqual(hall_at_three().step(("time", 4)), [("called", 4, "z", 9, (("o", 3),), (("n", "rank"),))])

    def test_wants_of_each_how(self):
        for how, placing in (("any", (("o", 2), ("p", 1))), ("near", (("p", 3),)), ("wide", (("o", 1), ("p", 1), ("r", 1)))):
            hall = hall_of(("o", "x", (2,)), ("p", "y", (3,)), ("r", "z", (1,)))
            hall.step(("gang", gang_of("a", many=6, length=50)))
            told = hall.step(("gang", gang_of("b", rank=1, many=3, how=how)))
            self.assertEqual(told, [("called", 0, "b", 5, placing, (("a", "rank"),))])


class ByPartsAndAsAWhole(unittest.TestCase):
    def hall(self):
        hall = hall_of(("o", "x", (4,)), ("p", "y", (3,)), g=(3,), h=(2,))
        for name, guild, rank, many, length in (("a", "g", 0, 3, 30), ("b", "h", 1, 4, 50), ("c", "g", 2, 3, 12),
                                                ("d", "h", 0, 2, 9), ("e", "g", 4, 5, 20), ("f", "h", 2, 7, 3)):
            hall.step(("gang", gang_of(name, guild, rank, many, length=length)))
        hall.step(("plan", gang_of("p", "g", 1, 3, length=15), 40))
        return hall

    def test_time_by_parts(self):
        whole = self.hall()
        told = whole.step(("time", 200))
        self.assertGreater(len(told), 12)
        chance = random.Random(18)
        for turn in range(30):
            parts = self.hall()
            rows = []
            for time in sorted(chance.sample(range(200), turn)) + [200]:
                rows += parts.step(("time", time))
            self.assertEqual(rows, told)
            self.assertEqual(all_of_hall(parts), all_of_hall(whole))

    def test_each_time_by_itself(self):
        whole, parts = self.hall(), self.hall()
        told = whole.step(("time", 200))
        rows = []
        for time in range(201):
            rows += parts.step(("time", time))
        self.assertEqual(rows, told)
        self.assertEqual(all_of_hall(parts), all_of_hall(whole))

    def test_history_is_all_that_was_told(self):
        hall = Hall(1, 5)
        rows = []
        for event in [("guild", "g", (2,)), ("house", "o", "x", (4,)), ("gang", gang_of("a", many=3)),
                      ("gang", gang_of("b", many=3)), ("plan", gang_of("c"), 15), ("time", 12), ("quit", "b"), ("time", 99)]:
            rows += hall.step(event)
            self.assertEqual(hall.history_rows(), rows)
        self.assertEqual(rows, [
            ("begun", 0, "a", (("o", 3),)), ("planned", 0, "c", 15, (("o", 1),)), ("ended", 10, "a"),
            ("begun", 10, "b", (("o", 3),)), ("begun", 15, "c", (("o", 1),)), ("ended", 25, "c")])


if __name__ == "__main__":
    unittest.main()
