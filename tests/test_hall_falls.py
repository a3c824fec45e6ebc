"""The hall: falls, calls that are off, plans that are moved or barred [19]."""

import unittest

from makers import gang_of, hall_of

from clusterhall.errors import NoGang


def states(hall):
    return [(row[0], row[1]) for row in hall.gang_rows()]


class Broken(unittest.TestCase):
    def test_a_house_without_entries(self):
        hall = hall_of(("o", "x", (4,)), ("p", "x", (4,)))
        hall.step(("gang", gang_of("a", many=4)))
        self.assertEqual(hall.step(("fall", "p")), [])
        self.assertEqual([row[0] for row in hall.estate_now().house_rows()], ["o"])
        self.assertEqual(states(hall), [("a", "goes")])

    def test_by_names_and_all_of_a_gang(self):
        hall = hall_of(("o", "x", (4,)), ("p", "x", (2,)))
        for name, many in (("c", 1), ("a", 1), ("b", 4)):
            hall.step(("gang", gang_of(name, many=many)))
        hall.step(("time", 2))
        self.assertEqual(hall.step(("fall", "o")), [
            ("broken", 2, "a", "o"), ("broken", 2, "b", "o"), ("broken", 2, "c", "o"),
            ("begun", 2, "c", (("p", 1),)), ("begun", 2, "a", (("p", 1),))])
        self.assertEqual(hall.gang_rows(), [("a", "goes", 2, 12, (("p", 1),)), ("b", "waits", None, None, ()),
                                            ("c", "goes", 2, 12, (("p", 1),))])
        self.assertEqual([(gang[0], number) for gang, number in hall.share_rows()], [("c", 4), ("a", 5)])

    def test_others_go_on(self):
        hall = hall_of(("o", "x", (4,)), ("p", "x", (4,)))
        hall.step(("gang", gang_of("a", many=4)))
        hall.step(("gang", gang_of("b", many=3)))
        self.assertEqual(hall.step(("fall", "p")), [("broken", 0, "b", "p")])
        self.assertEqual(states(hall), [("a", "goes"), ("b", "waits")])
        self.assertEqual(hall.step(("fall", "o")), [("broken", 0, "a", "o")])
        self.assertEqual([gang[0] for gang in hall.waiting_gangs()], ["a", "b"])

    def test_one_that_was_planned_and_goes(self):
        hall = hall_of(("o", "x", (4,)))
        hall.step(("plan", gang_of("a"), 3))
        hall.step(("time", 3))
        self.assertEqual(hall.step(("fall", "o")), [("broken", 3, "a", "o")])
        self.assertEqual(states(hall), [("a", "waits")])
        self.assertEqual(hall.barred_rows(), [])

    def test_one_that_was_told_to_leave(self):
        # a stands in o, c is called to o and p; as o falls both wait, and a is to leave no more.
        hall = hall_of(("o", "x", (4,)), ("p", "x", (4,)))
        hall.step(("gang", gang_of("a", many=4, length=50)))
        hall.step(("gang", gang_of("c", rank=1, many=5, length=50)))
        self.assertEqual(states(hall), [("a", "leaves"), ("c", "called")])
        self.assertEqual(hall.step(("fall", "o")), [("broken", 0, "a", "o"), ("broken", 0, "c", "o"),
                                                    ("begun", 0, "a", (("p", 4),))])
        self.assertEqual(hall.taking_rows(), [])
        self.assertEqual(hall.gang_rows()[0], ("a", "goes", 0, 50, (("p", 4),)))
        self.assertEqual(hall.leavable_names(), ["a"])

    def test_one_that_was_told_to_leave_for_another_house(self):
        # a stands in o and p, c is called to p: as o falls a waits, but c is still called.
        hall = hall_of(("o", "x", (2,)), ("p", "y", (4,)))
        hall.step(("gang", gang_of("a", many=6, length=50)))
        hall.step(("gang", gang_of("c", rank=1, many=3, how="near", length=50)))
        self.assertEqual(hall.taking_rows(), [("a", "c", "rank", 5)])
        self.assertEqual(hall.step(("fall", "o")), [("broken", 0, "a", "o")])
        self.assertEqual(hall.taking_rows(), [])
        self.assertEqual(states(hall), [("a", "waits"), ("c", "called")])
        self.assertEqual(hall.step(("time", 5)), [("begun", 5, "c", (("p", 3),))])

    def test_a_name_of_a_fallen_house(self):
        hall = hall_of(("o", "x", (4,)))
        hall.step(("gang", gang_of("a", many=4)))
        hall.step(("fall", "o"))
        self.assertEqual(hall.step(("house", "o", "z", (5,))), [("begun", 0, "a", (("o", 4),))])


class CallsThatAreOff(unittest.TestCase):
    def called_hall(self):
        """a is to leave o at 5 for x, which is called; q is empty, but too small."""
        hall = hall_of(("o", "x", (4,)), ("q", "y", (1,)))
        hall.step(("gang", gang_of("a", many=4, how="near", length=100)))
        hall.step(("gang", gang_of("x", rank=5, many=2, how="near", length=10)))
        return hall

    def test_kept_behind_a_quit(self):
        hall = self.called_hall()
        hall.step(("time", 3))
        self.assertEqual(hall.taking_rows(), [("a", "x", "rank", 5)])
        self.assertEqual(hall.step(("quit", "x")), [("kept", 3, "a")])
        self.assertEqual(hall.gang_rows(), [("a", "goes", 0, 100, (("o", 4),))])
        self.assertEqual(hall.taking_rows(), [])
        self.assertEqual(hall.leavable_names(), ["a"])
        self.assertEqual([(gang[0], number) for gang, number in hall.share_rows()], [("a", 1)])
        self.assertEqual(hall.step(("time", 100)), [("ended", 100, "a")])

    def test_one_that_was_kept_may_be_told_again(self):
        hall = self.called_hall()
        hall.step(("quit", "x"))
        hall.step(("time", 3))
        self.assertEqual(hall.step(("gang", gang_of("y", rank=5, many=2, how="near"))),
                         [("called", 3, "y", 8, (("o", 2),), (("a", "rank"),))])
        self.assertEqual(hall.taking_rows(), [("a", "y", "rank", 8)])

    def test_not_kept_where_its_room_is_planned_for(self):
        hall = self.called_hall()
        hall.step(("plan", gang_of("p", many=4, how="near"), 20))
        self.assertEqual(hall.step(("quit", "x")), [])
        self.assertEqual(hall.gang_rows()[0], ("a", "leaves", 0, 5, (("o", 4),)))
        self.assertEqual(hall.taking_rows(), [("a", "x", "rank", 5)])
        self.assertEqual(hall.leavable_names(), [])
        self.assertEqual(hall.step(("time", 40)), [("left", 5, "a"), ("begun", 20, "p", (("o", 4),)), ("ended", 30, "p"),
                                                   ("begun", 30, "a", (("o", 4),))])
        self.assertEqual(hall.taking_rows(), [])

    def test_kept_where_a_plan_touches_its_end(self):
        hall = self.called_hall()
        hall.step(("plan", gang_of("p", many=4, how="near"), 100))
        self.assertEqual(hall.step(("quit", "x")), [("kept", 0, "a")])

    def test_a_call_that_was_met_is_not_off(self):
        hall = self.called_hall()
        hall.step(("time", 5))
        self.assertEqual(states(hall), [("a", "waits"), ("x", "goes")])
        self.assertEqual(hall.step(("quit", "x")), [("begun", 5, "a", (("o", 4),))])

    def test_of_several_in_the_order_told(self):
        hall = hall_of(("o", "x", (4,)))
        for name, many in (("c", 1), ("a", 2), ("b", 1)):
            hall.step(("gang", gang_of(name, many=many, length=50)))
        hall.step(("gang", gang_of("x", rank=2, many=4)))
        self.assertEqual(hall.taking_rows(), [("b", "x", "rank", 5), ("a", "x", "rank", 5), ("c", "x", "rank", 5)])
        self.assertEqual(hall.step(("quit", "x")), [("kept", 0, "b"), ("kept", 0, "a"), ("kept", 0, "c")])

    def test_some_kept_and_some_not(self):
        # A plan leaves room for one of a and b to go on: the one that was told first.
        for first, second in (("a", "b"), ("b", "a")):
            hall = hall_of(("o", "x", (4,)))
            hall.step(("gang", gang_of(second, many=2, length=50)))
            hall.step(("gang", gang_of(first, many=2, length=50)))
            hall.step(("gang", gang_of("x", rank=2, many=4)))
            hall.step(("plan", gang_of("p", many=2), 20))
            self.assertEqual([row[0] for row in hall.taking_rows()], [first, second])
            self.assertEqual(hall.step(("quit", "x")), [("kept", 0, first)])
            self.assertEqual(hall.taking_rows(), [(second, "x", "rank", 5)])
            self.assertEqual(hall.leavable_names(), [first])

    def test_others_calls_stay(self):
        hall = hall_of(("o", "x", (2,)), ("p", "x", (2,)))
        hall.step(("gang", gang_of("a", many=2, length=50)))
        hall.step(("gang", gang_of("b", many=2, length=50)))
        hall.step(("gang", gang_of("x", rank=2, many=2)))
        hall.step(("gang", gang_of("y", rank=1, many=2)))
        self.assertEqual(hall.taking_rows(), [("b", "x", "rank", 5), ("a", "y", "rank", 5)])
        self.assertEqual(hall.step(("quit", "y")), [("kept", 0, "a")])
        self.assertEqual(hall.taking_rows(), [("b", "x", "rank", 5)])

    def elder_hall(self):
        """b was told to leave for an elder x, and could not be kept; a is to leave for the x that is called."""
        hall = hall_of(("o", "x", (4,)), ("q", "x", (4,)))
        hall.step(("gang", gang_of("a", many=4, length=100)))
        hall.step(("gang", gang_of("b", many=4, length=100)))
        hall.step(("gang", gang_of("x", rank=5, many=4, length=10)))
        hall.step(("plan", gang_of("p", many=4), 20))
        hall.step(("quit", "x"))
        hall.step(("time", 1))
        hall.step(("gang", gang_of("x", rank=6, many=4, length=20)))
        return hall

    def test_those_told_for_an_elder_one_of_that_name(self):
        hall = self.elder_hall()
        self.assertEqual(hall.taking_rows(), [("b", "x", "rank", 5), ("a", "x", "rank", 6)])
        hall.step(("quit", "p"))
        self.assertEqual(hall.step(("quit", "x")), [("kept", 1, "b"), ("kept", 1, "a")])
        self.assertEqual(hall.taking_rows(), [])
        self.assertEqual([row[:4] for row in hall.gang_rows()], [("a", "goes", 0, 100), ("b", "goes", 0, 100)])

    def test_an_elder_one_that_can_not_be_kept_still(self):
        hall = self.elder_hall()
        self.assertEqual(hall.step(("quit", "x")), [("kept", 1, "a")])
        self.assertEqual(hall.taking_rows(), [("b", "x", "rank", 5)])
        self.assertEqual(hall.step(("time", 5)), [("left", 5, "b")])
        self.assertEqual(hall.taking_rows(), [])

    def test_an_elder_one_whose_name_only_waits(self):
        # The new x isn't called: no call of it is off as it quits, and b leaves as told.
        hall = hall_of(("q", "x", (4,)))
        hall.step(("gang", gang_of("b", many=4, length=100)))
        hall.step(("gang", gang_of("x", rank=5, many=4, length=10)))
        hall.step(("plan", gang_of("p", many=4), 20))
        hall.step(("quit", "x"))
        hall.step(("gang", gang_of("x", rank=6, many=4, length=20)))
        self.assertEqual(states(hall), [("b", "leaves"), ("p", "planned"), ("x", "waits")])
        hall.step(("quit", "p"))
        self.assertEqual(hall.step(("quit", "x")), [])
        self.assertEqual(hall.taking_rows(), [("b", "x", "rank", 5)])


class FallsOfCalledOnes(unittest.TestCase):
    def test_its_call_is_off(self):
        # x stands in o and q; as q falls, a, which was to leave o for it, is kept.
        hall = hall_of(("o", "x", (4,)), ("q", "x", (4,)))
        hall.step(("gang", gang_of("a", many=1, want=(4,), length=100)))
        hall.step(("gang", gang_of("x", rank=5, many=2, want=(4,), length=10)))
        self.assertEqual(hall.gang_rows()[1], ("x", "called", 5, 15, (("o", 1), ("q", 1))))
        self.assertEqual(hall.step(("fall", "q")), [("broken", 0, "x", "q"), ("kept", 0, "a")])
        self.assertEqual(hall.gang_rows(), [("a", "goes", 0, 100, (("o", 1),)), ("x", "waits", None, None, ())])
        self.assertEqual(hall.estate_now().entries_in("o"), [("a", 0, 100, (4,))])

    def test_its_number_is_gone(self):
        hall = hall_of(("o", "x", (4,)), ("q", "x", (4,)))
        hall.step(("gang", gang_of("a", many=1, want=(4,), length=100)))
        hall.step(("gang", gang_of("x", rank=5, many=2, want=(4,), length=10)))
        hall.step(("fall", "q"))
        self.assertEqual([(gang[0], number) for gang, number in hall.share_rows()], [("a", 1)])
        self.assertEqual(hall.step(("house", "r", "x", (4,))),
                         [("called", 0, "x", 5, (("o", 1), ("r", 1)), (("a", "rank"),))])
        self.assertEqual([(gang[0], number) for gang, number in hall.share_rows()], [("x", 3)])

    def test_calls_are_off_by_names_behind_all_broken_ones(self):
        # y was called first, taking from b in p, then x, taking from a in o; both have a task in q.
        hall = hall_of(("o", "x", (4,)), ("p", "x", (4,)), ("q", "x", (8,)))
        hall.step(("gang", gang_of("a", many=4, length=100)))
        hall.step(("gang", gang_of("b", many=4, length=100)))
        hall.step(("gang", gang_of("c", rank=9, many=2, length=100)))
        hall.step(("gang", gang_of("y", rank=5, many=2, want=(3,), how="apart", length=10)))
        hall.step(("gang", gang_of("x", rank=4, many=2, want=(3,), how="apart", length=10)))
        self.assertEqual(hall.taking_rows(), [("b", "y", "rank", 5), ("a", "x", "rank", 5)])
        told = hall.step(("fall", "q"))
        self.assertEqual(told[:5], [("broken", 0, "c", "q"), ("broken", 0, "x", "q"), ("broken", 0, "y", "q"),
                                    ("kept", 0, "a"), ("kept", 0, "b")])

    def test_plans_give_way_to_those_that_are_kept(self):
        # a goes on in o as x's call is off, where p was to be: the plans aren't booked while that is looked at.
        hall = hall_of(("o", "x", (4,)), ("q", "x", (4,)))
        hall.step(("gang", gang_of("a", many=1, want=(4,), length=100)))
        hall.step(("gang", gang_of("x", rank=5, many=2, want=(4,), length=10)))
        hall.step(("plan", gang_of("p", many=2, want=(4,), length=10), 20))
        self.assertEqual(hall.step(("fall", "q")), [
            ("broken", 0, "x", "q"), ("kept", 0, "a"), ("barred", 0, "p", "q")])
        self.assertEqual(hall.barred_rows(), [("p", 20, "q")])
        self.assertEqual(states(hall), [("a", "goes"), ("x", "waits")])

    def test_one_is_not_kept_beside_a_plan_elsewhere(self):
        # p has no entry in q: it stays booked in o, and a leaves as told.
        hall = hall_of(("o", "x", (4,)), ("q", "x", (4,)))
        hall.step(("gang", gang_of("a", many=1, want=(4,), length=100)))
        hall.step(("gang", gang_of("x", rank=5, many=2, want=(4,), length=10)))
        hall.step(("plan", gang_of("p", many=1, want=(4,), length=10), 20))
        self.assertEqual(hall.step(("fall", "q")), [("broken", 0, "x", "q")])
        self.assertEqual(hall.taking_rows(), [("a", "x", "rank", 5)])
        self.assertEqual(hall.step(("time", 5)), [("left", 5, "a")])

    def test_those_told_by_an_earlier_call_of_the_same_one(self):
        # x's first call is off, and a isn't kept beside p; the second one takes from b, and as it is off both are.
        hall = hall_of(("o", "x", (4,)), ("q", "x", (4,)))
        hall.step(("gang", gang_of("a", many=1, want=(4,), length=100)))
        hall.step(("gang", gang_of("x", rank=5, many=2, want=(4,), length=10)))
        hall.step(("plan", gang_of("p", many=1, want=(4,), length=10), 20))
        hall.step(("house", "r", "x", (4,)))
        hall.step(("gang", gang_of("b", many=1, want=(4,), length=100)))
        self.assertEqual(hall.step(("fall", "q")), [
            ("broken", 0, "x", "q"), ("called", 0, "x", 5, (("o", 1), ("r", 1)), (("b", "rank"),))])
        self.assertEqual(hall.taking_rows(), [("a", "x", "rank", 5), ("b", "x", "rank", 5)])
        hall.step(("quit", "p"))
        self.assertEqual(hall.step(("quit", "x")), [("kept", 0, "a"), ("kept", 0, "b")])


class Plans(unittest.TestCase):
    def test_moved_or_barred(self):
        hall = hall_of(("o", "x", (4,)), ("p", "x", (2,)), ("q", "y", (2,)))
        hall.step(("plan", gang_of("a", many=4, length=10), 10))
        self.assertEqual(hall.step(("fall", "o")), [("moved", 0, "a", (("p", 2), ("q", 2)))])
        self.assertEqual(hall.gang_rows(), [("a", "planned", 10, 20, (("p", 2), ("q", 2)))])
        self.assertEqual(hall.step(("fall", "q")), [("barred", 0, "a", "q")])
        self.assertEqual(hall.gang_rows(), [])
        self.assertEqual(hall.barred_rows(), [("a", 10, "q")])
        self.assertEqual(hall.step(("time", 30)), [])

    def test_by_begins_then_names(self):
        # p has room for one at a time; each stands in o, and they are moved by begins, then by names.
        hall = hall_of(("o", "x", (9,)), ("p", "x", (1,)))
        for name, begin in (("d", 20), ("a", 25), ("c", 20), ("b", 12), ("e", 30)):
            hall.step(("plan", gang_of(name), begin))
        self.assertEqual(hall.step(("fall", "o")), [
            ("moved", 0, "b", (("p", 1),)), ("barred", 0, "c", "o"), ("barred", 0, "d", "o"),
            ("moved", 0, "a", (("p", 1),)), ("barred", 0, "e", "o")])
        self.assertEqual(hall.barred_rows(), [("c", 20, "o"), ("d", 20, "o"), ("e", 30, "o")])

    def test_of_one_begin_by_names(self):
        hall = hall_of(("o", "x", (9,)), ("p", "x", (1,)))
        for name in ("c", "a", "b"):
            hall.step(("plan", gang_of(name), 20))
        self.assertEqual(hall.step(("fall", "o")), [
            ("moved", 0, "a", (("p", 1),)), ("barred", 0, "b", "o"), ("barred", 0, "c", "o")])

    def test_ahead_of_the_round(self):
        # a goes in o, b is planned there; as o falls, p is b's, though a is of a higher rank.
        hall = hall_of(("o", "x", (2,)), ("p", "x", (1,)))
        hall.step(("gang", gang_of("a", rank=9, length=10)))
        hall.step(("plan", gang_of("b", length=10), 5))
        self.assertEqual(hall.step(("fall", "o")), [("broken", 0, "a", "o"), ("moved", 0, "b", (("p", 1),))])
        self.assertEqual(states(hall), [("a", "waits"), ("b", "planned")])

    def test_one_that_was_moved_begins_as_planned(self):
        hall = hall_of(("o", "x", (2,)), ("p", "x", (2,)))
        hall.step(("plan", gang_of("b", many=2, length=10), 10))
        hall.step(("time", 4))
        self.assertEqual(hall.step(("fall", "o")), [("moved", 4, "b", (("p", 2),))])
        self.assertEqual(hall.step(("time", 30)), [("begun", 10, "b", (("p", 2),)), ("ended", 20, "b")])

    def test_shut_houses_take_none(self):
        hall = hall_of(("o", "x", (2,)), ("p", "x", (2,)))
        hall.step(("plan", gang_of("b", many=2, length=10), 10))
        hall.step(("shut", "p"))
        self.assertEqual(hall.step(("fall", "o")), [("barred", 0, "b", "o")])

    def test_those_elsewhere_stay(self):
        hall = hall_of(("o", "x", (2,)), ("p", "x", (2,)))
        hall.step(("plan", gang_of("a", many=2, length=10), 10))
        hall.step(("plan", gang_of("b", many=2, length=10), 10))
        self.assertEqual(hall.step(("fall", "o")), [("barred", 0, "a", "o")])
        self.assertEqual(states(hall), [("b", "planned")])

    def test_a_barred_ones_name_is_free(self):
        hall = hall_of(("o", "x", (2,)))
        hall.step(("plan", gang_of("a"), 10))
        hall.step(("fall", "o"))
        with self.assertRaises(NoGang):
            hall.step(("quit", "a"))
        hall.step(("gang", gang_of("a")))
        hall.step(("quit", "a"))
        hall.step(("house", "o", "x", (2,)))
        hall.step(("plan", gang_of("a"), 7))
        hall.step(("fall", "o"))
        self.assertEqual(hall.barred_rows(), [("a", 10, "o"), ("a", 7, "o")])

    def test_barred_ones_keep_no_told_number_back(self):
        # The told numbers go on: who was told later waits behind.
        hall = hall_of(("o", "x", (2,)))
        hall.step(("plan", gang_of("a"), 10))
        hall.step(("gang", gang_of("b", many=3)))
        hall.step(("fall", "o"))
        hall.step(("gang", gang_of("a", many=3)))
        self.assertEqual([gang[0] for gang in hall.waiting_gangs()], ["b", "a"])

    def test_a_planned_ones_told_number(self):
        # a was planned ahead of b: once it is broken it waits ahead of b.
        hall = hall_of(("o", "x", (2,)))
        hall.step(("plan", gang_of("a"), 1))
        hall.step(("gang", gang_of("b", many=3)))
        hall.step(("time", 1))
        hall.step(("fall", "o"))
        self.assertEqual([gang[0] for gang in hall.waiting_gangs()], ["a", "b"])


if __name__ == "__main__":
    unittest.main()
