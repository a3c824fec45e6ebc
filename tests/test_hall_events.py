"""The hall: its events and their refusals [16], [17], and its asks [21]."""

import unittest

from makers import all_of_hall, gang_of, hall_of

from clusterhall.errors import InUse, NoGang, NoGuild, NoHouse, NoKind, NoPlan, Past, Taken, TooMany
from clusterhall.hall import Hall

GREAT = 10 ** 12


class HallCase(unittest.TestCase):
    def assert_refused(self, refusal, hall, *event):
        """That an event is refused, and changes nothing; tells the refusal."""
        before = all_of_hall(hall)
        with self.assertRaises(refusal) as caught:
            hall.step(event)
        self.assertIs(type(caught.exception), refusal)
        self.assertEqual(all_of_hall(hall), before)
        return caught.exception

    def states(self, hall):
        return [(row[0], row[1]) for row in hall.gang_rows()]


def busy_hall():
    """A hall at 10, with a gang in each state: e has ended, f is barred, h has quit; i isn't a guild."""
    hall = hall_of(("o", "x", (4,)), ("p", "y", (2,)), ("r", "y", (1,)), g=(0,), h=(2,))
    events = [
        ("gang", gang_of("e", length=3, want=(1,))),
        ("time", 3),
        ("plan", gang_of("f", want=(1,), many=7, length=5), 50),
        ("fall", "r"),
        ("gang", gang_of("h")),
        ("quit", "h"),
        ("gang", gang_of("l", many=3, length=40, how="near")),
        ("gang", gang_of("g", guild="h", many=2, length=90, how="near")),
        ("time", 10),
        ("gang", gang_of("c", rank=1, many=4, how="near")),
        ("plan", gang_of("p", many=2, how="near"), 70),
        ("gang", gang_of("w", many=9)),
    ]
    for event in events:
        hall.step(event)
    return hall


class ANewHall(HallCase):
    def test_asks(self):
        hall = Hall(3, 7)
        self.assertEqual(hall.time_now(), 0)
        self.assertEqual(hall.grace_told(), 7)
        for ask in (hall.waiting_gangs, hall.gang_rows, hall.taking_rows, hall.barred_rows, hall.kind_rows,
                    hall.share_rows, hall.leavable_names, hall.history_rows):
            self.assertEqual(ask(), [])
        self.assertEqual(hall.due_rows(), {})
        self.assertEqual(hall.estate_now().house_rows(), [])
        self.assert_refused(NoGang, hall, "quit", "a")
        with self.assertRaises(NoGang):
            hall.gang_of("a")

    def test_bounds_of_grace_and_wares(self):
        for grace in (1, 1000):
            self.assertEqual(Hall(8, grace).grace_told(), grace)
        hall = Hall(8, 1)
        hall.step(("guild", "g", (GREAT,) * 8))
        hall.step(("house", "o", "x", (GREAT,) * 8))
        gang = gang_of("a", want=(GREAT,) * 8, length=10 ** 6)
        self.assertEqual(hall.step(("gang", gang)), [("begun", 0, "a", (("o", 1),))])
        self.assertEqual(hall.step(("time", 100000)), [])

    def test_a_busy_one(self):
        hall = busy_hall()
        self.assertEqual(self.states(hall), [("c", "called"), ("g", "goes"), ("l", "leaves"), ("p", "planned"),
                                             ("w", "waits")])
        self.assertEqual(hall.barred_rows(), [("f", 50, "r")])


class Guilds(HallCase):
    def test_dues(self):
        hall = Hall(2, 5)
        self.assertEqual(hall.step(("guild", "g", (3, 4))), [])
        self.assertEqual(hall.step(("guild", "ab", (0, 0))), [])
        self.assertEqual(hall.due_rows(), {"g": (3, 4), "ab": (0, 0)})
        self.assertEqual(hall.step(("guild", "g", (GREAT, 0))), [])
        self.assertEqual(hall.due_rows(), {"g": (GREAT, 0), "ab": (0, 0)})
        self.assertIs(type(hall.due_rows()), dict)

    def test_a_due_that_is_changed_counts_from_now_on(self):
        hall = hall_of(("o", "x", (4,)), g=(0,), h=(0,))
        hall.step(("gang", gang_of("a", many=4, length=50)))
        hall.step(("gang", gang_of("b", guild="h", many=2)))
        self.assertEqual(self.states(hall), [("a", "goes"), ("b", "waits")])
        self.assertEqual(hall.step(("guild", "h", (1,))), [])
        told = hall.step(("guild", "h", (2,)))
        self.assertEqual(told, [("called", 0, "b", 5, (("o", 2),), (("a", "share"),))])

    def test_what_was_lent_may_be_own(self):
        hall = hall_of(("o", "x", (4,)), g=(0,), h=(4,))
        hall.step(("gang", gang_of("a", many=4, length=50)))
        hall.step(("guild", "g", (4,)))
        self.assertEqual(hall.step(("gang", gang_of("b", guild="h", many=2))), [])
        self.assertEqual(hall.step(("guild", "g", (3,))),
                         [("called", 0, "b", 5, (("o", 2),), (("a", "share"),))])

    def test_a_due_that_is_handed_in_stays_the_callers(self):
        hall = hall_of(g=(3,))
        dues = hall.due_rows()
        dues["g"] = (9,)
        dues["x"] = (1,)
        self.assertEqual(hall.due_rows(), {"g": (3,)})
        self.assert_refused(NoGuild, hall, "gang", gang_of("a", guild="x"))


class Houses(HallCase):
    def test_a_house_more(self):
        hall = hall_of()
        self.assertEqual(hall.step(("house", "o", "x", (4,))), [])
        self.assertEqual(hall.step(("house", "ab", "house", (0,))), [])
        self.assertEqual(hall.estate_now().house_rows(), [("ab", "house", (0,), None, "open"),
                                                          ("o", "x", (4,), None, "open")])
        self.assert_refused(Taken, hall, "house", "o", "y", (9,))
        hall.step(("shut", "o"))
        self.assert_refused(Taken, hall, "house", "o", "x", (4,))

    def test_who_waits_begins_in_it(self):
        hall = hall_of()
        hall.step(("gang", gang_of("a", many=2)))
        self.assertEqual(hall.step(("house", "o", "x", (1,))), [])
        self.assertEqual(hall.step(("house", "p", "x", (1,))), [("begun", 0, "a", (("o", 1), ("p", 1)))])

    def test_kinds(self):
        hall = hall_of()
        self.assertEqual(hall.step(("kind", "m", "x", (4,), 2)), [])
        self.assertEqual(hall.step(("kind", "kk", "x", (1,), 40)), [])
        self.assertEqual(hall.step(("kind", "k", "y", (0,), 1)), [])
        self.assertEqual(hall.kind_rows(), [("k", "y", (0,), 1), ("kk", "x", (1,), 40), ("m", "x", (4,), 2)])
        self.assert_refused(Taken, hall, "kind", "m", "x", (4,), 2)
        self.assert_refused(Taken, hall, "kind", "m", "y", (5,), 3)
        self.assertEqual(hall.estate_now().house_rows(), [])

    def test_names_of_houses_kinds_guilds_and_gangs_are_apart(self):
        hall = hall_of()
        hall.step(("house", "g", "g", (4,)))
        hall.step(("kind", "g", "g", (4,), 1))
        hall.step(("gang", gang_of("g")))
        hall.step(("fetch", "g", "k"))
        self.assertEqual(hall.estate_now().house_rows(), [("g", "g", (4,), None, "open"), ("k", "g", (4,), "g", "open")])

    def test_fetched_up_to_most(self):
        hall = hall_of(("o", "x", (4,)))
        hall.step(("kind", "k", "y", (3,), 2))
        hall.step(("kind", "m", "y", (3,), 1))
        self.assertEqual(hall.step(("fetch", "k", "b")), [])
        self.assertEqual(hall.step(("fetch", "m", "m")), [])
        self.assertEqual(hall.step(("fetch", "k", "a")), [])
        self.assert_refused(TooMany, hall, "fetch", "k", "c")
        self.assert_refused(TooMany, hall, "fetch", "m", "c")
        self.assertEqual(hall.estate_now().house_rows(),
                         [("a", "y", (3,), "k", "open"), ("b", "y", (3,), "k", "open"), ("m", "y", (3,), "m", "open"),
                          ("o", "x", (4,), None, "open")])
        hall.step(("shut", "a"))
        self.assert_refused(TooMany, hall, "fetch", "k", "c")
        hall.step(("let", "a"))
        self.assertEqual(hall.step(("fetch", "k", "c")), [])
        self.assert_refused(TooMany, hall, "fetch", "k", "a")
        hall.step(("fall", "b"))
        self.assertEqual(hall.step(("fetch", "k", "a")), [])

    def test_refusals_of_fetch_and_their_order(self):
        hall = hall_of(("o", "x", (4,)))
        hall.step(("kind", "k", "y", (3,), 1))
        self.assert_refused(NoKind, hall, "fetch", "m", "a")
        self.assert_refused(NoKind, hall, "fetch", "m", "o")
        self.assert_refused(Taken, hall, "fetch", "k", "o")
        hall.step(("fetch", "k", "a"))
        self.assert_refused(Taken, hall, "fetch", "k", "a")
        self.assert_refused(Taken, hall, "fetch", "k", "o")
        self.assert_refused(TooMany, hall, "fetch", "k", "b")
        self.assert_refused(NoKind, hall, "fetch", "a", "b")

    def test_who_waits_begins_in_a_fetched_one(self):
        hall = hall_of()
        hall.step(("kind", "k", "y", (3,), 1))
        hall.step(("gang", gang_of("a", many=3)))
        self.assertEqual(hall.step(("fetch", "k", "o")), [("begun", 0, "a", (("o", 3),))])

    def test_shut_and_opened(self):
        hall = hall_of(("o", "x", (4,)))
        hall.step(("gang", gang_of("a", many=2, length=50)))
        self.assertEqual(hall.step(("shut", "o")), [])
        self.assertEqual(hall.step(("shut", "o")), [])
        self.assertEqual(hall.step(("gang", gang_of("b", many=2))), [])
        self.assertEqual(self.states(hall), [("a", "goes"), ("b", "waits")])
        self.assertEqual(hall.step(("open", "o")), [("begun", 0, "b", (("o", 2),))])
        self.assertEqual(hall.step(("open", "o")), [])
        self.assert_refused(NoHouse, hall, "shut", "x")
        self.assert_refused(NoHouse, hall, "open", "a")

    def test_what_is_booked_in_a_shut_house_begins(self):
        hall = hall_of(("o", "x", (4,)))
        hall.step(("plan", gang_of("a", many=2), 3))
        hall.step(("shut", "o"))
        self.assertEqual(hall.step(("time", 20)), [("begun", 3, "a", (("o", 2),)), ("ended", 13, "a")])

    def test_let_go(self):
        hall = hall_of(("o", "x", (4,)), ("p", "x", (4,)))
        hall.step(("gang", gang_of("a", many=2, length=20)))
        hall.step(("plan", gang_of("b", many=8), 20))
        self.assert_refused(InUse, hall, "let", "o")
        self.assert_refused(InUse, hall, "let", "p")
        self.assert_refused(NoHouse, hall, "let", "q")
        hall.step(("quit", "b"))
        self.assert_refused(InUse, hall, "let", "o")
        self.assertEqual(hall.step(("let", "p")), [])
        self.assert_refused(NoHouse, hall, "let", "p")
        hall.step(("time", 19))
        self.assert_refused(InUse, hall, "let", "o")
        hall.step(("time", 20))
        self.assertEqual(hall.step(("let", "o")), [])
        self.assertEqual(hall.estate_now().house_rows(), [])

    def test_no_house_to_fall(self):
        hall = busy_hall()
        self.assert_refused(NoHouse, hall, "fall", "r")
        self.assert_refused(NoHouse, hall, "fall", "x")


class Gangs(HallCase):
    def test_one_begins_at_once_or_waits(self):
        hall = hall_of(("o", "x", (4,)))
        self.assertEqual(hall.step(("gang", gang_of("a", many=3))), [("begun", 0, "a", (("o", 3),))])
        self.assertEqual(hall.step(("gang", gang_of("b", many=2))), [])
        self.assertEqual(hall.gang_rows(), [("a", "goes", 0, 10, (("o", 3),)), ("b", "waits", None, None, ())])
        self.assertEqual(hall.gang_of("b"), gang_of("b", many=2))
        self.assertEqual(hall.waiting_gangs(), [gang_of("b", many=2)])

    def test_a_name_that_is_there(self):
        hall = busy_hall()
        for name in ("c", "g", "l", "p", "w"):
            self.assert_refused(Taken, hall, "gang", gang_of(name))
            self.assert_refused(Taken, hall, "plan", gang_of(name), 900)

    def test_a_name_that_was_there(self):
        for name in ("e", "f", "h"):
            hall = busy_hall()
            self.assert_refused(NoGang, hall, "quit", name)
            with self.assertRaises(NoGang):
                hall.gang_of(name)
            hall.step(("gang", gang_of(name, want=(9,))))
            self.assertEqual(hall.gang_of(name), gang_of(name, want=(9,)))
            hall = busy_hall()
            hall.step(("plan", gang_of(name), 900))
            self.assertEqual(hall.gang_of(name), gang_of(name))

    def test_no_guild(self):
        hall = busy_hall()
        self.assert_refused(NoGuild, hall, "gang", gang_of("n", guild="i"))
        self.assert_refused(NoGuild, hall, "plan", gang_of("n", guild="i"), 900)

    def test_the_order_of_refusals(self):
        hall = busy_hall()
        self.assert_refused(Taken, hall, "gang", gang_of("w", guild="i"))
        self.assert_refused(Taken, hall, "plan", gang_of("w", guild="i", many=60), 0)
        self.assert_refused(NoGuild, hall, "plan", gang_of("n", guild="i", many=60), 0)
        self.assert_refused(Past, hall, "plan", gang_of("n", many=60), 10)
        self.assert_refused(NoPlan, hall, "plan", gang_of("n", many=60), 11)

    def test_gang_of_each(self):
        hall = busy_hall()
        self.assertEqual([hall.gang_of(name)[0] for name in "cglpw"], list("cglpw"))
        self.assertEqual(hall.gang_of("c"), gang_of("c", rank=1, many=4, how="near"))


class Plans(HallCase):
    def test_at_below_and_above_now(self):
        hall = hall_of(("o", "x", (4,)))
        hall.step(("time", 7))
        self.assert_refused(Past, hall, "plan", gang_of("a"), 6)
        self.assert_refused(Past, hall, "plan", gang_of("a"), 7)
        self.assertEqual(hall.step(("plan", gang_of("a", many=2), 8)), [("planned", 7, "a", 8, (("o", 2),))])
        self.assertEqual(hall.gang_rows(), [("a", "planned", 8, 18, (("o", 2),))])

    def test_time_nought(self):
        hall = hall_of(("o", "x", (4,)))
        self.assert_refused(Past, hall, "plan", gang_of("a"), 0)
        hall.step(("plan", gang_of("a", length=10 ** 6), 10 ** 9))
        self.assertEqual(hall.gang_rows(), [("a", "planned", 10 ** 9, 10 ** 9 + 10 ** 6, (("o", 1),))])

    def test_counts_where_there_is_no_room_then(self):
        hall = hall_of(("o", "x", (4,)), ("p", "y", (3,)))
        hall.step(("plan", gang_of("a", many=3), 20))
        refusal = self.assert_refused(NoPlan, hall, "plan", gang_of("b", many=5), 11)
        self.assertEqual(refusal.counts, (("o", 1), ("p", 3)))
        refusal = self.assert_refused(NoPlan, hall, "plan", gang_of("b", many=3, how="apart"), 29)
        self.assertEqual(refusal.counts, (("o", 1), ("p", 1)))
        hall.step(("shut", "o"))
        refusal = self.assert_refused(NoPlan, hall, "plan", gang_of("b", many=4), 30)
        self.assertEqual(refusal.counts, (("p", 3),))
        hall.step(("open", "o"))
        self.assertEqual(hall.step(("plan", gang_of("b", many=5), 30)),
                         [("planned", 0, "b", 30, (("o", 4), ("p", 1)))])
        self.assertEqual(hall.step(("plan", gang_of("c", many=4), 20)), [("planned", 0, "c", 20, (("o", 1), ("p", 3)))])

    def test_no_houses(self):
        self.assertEqual(self.assert_refused(NoPlan, hall_of(), "plan", gang_of("b"), 1).counts, ())

    def test_a_plan_stands_ahead_of_those_that_wait(self):
        hall = hall_of(("o", "x", (4,)))
        hall.step(("plan", gang_of("a", many=4), 5))
        self.assertEqual(hall.step(("gang", gang_of("b", length=6))), [])
        self.assertEqual(hall.step(("gang", gang_of("c", length=5))), [("begun", 0, "c", (("o", 1),))])
        self.assertEqual(hall.step(("time", 30)), [("ended", 5, "c"), ("begun", 5, "a", (("o", 4),)), ("ended", 15, "a"),
                                                   ("begun", 15, "b", (("o", 1),)), ("ended", 21, "b")])


class Quits(HallCase):
    def test_one_that_waits(self):
        hall = busy_hall()
        self.assertEqual(hall.step(("quit", "w")), [])
        self.assertEqual(self.states(hall), [("c", "called"), ("g", "goes"), ("l", "leaves"), ("p", "planned")])
        self.assertEqual(hall.waiting_gangs(), [])

    def test_one_that_goes(self):
        hall = busy_hall()
        self.assertEqual(hall.step(("quit", "g")), [])
        self.assertEqual(hall.estate_now().entries_in("p"), [])
        self.assertEqual(hall.leavable_names(), [])

    def test_room_that_is_left_is_used_at_once(self):
        hall = hall_of(("o", "x", (4,)))
        hall.step(("gang", gang_of("a", many=3)))
        hall.step(("gang", gang_of("b", many=3)))
        self.assertEqual(hall.step(("quit", "a")), [("begun", 0, "b", (("o", 3),))])

    def test_one_that_leaves(self):
        hall = busy_hall()
        self.assertEqual(hall.taking_rows(), [("l", "c", "rank", 15)])
        self.assertEqual(hall.step(("quit", "l")), [])
        self.assertEqual(hall.taking_rows(), [])
        self.assertEqual(self.states(hall), [("c", "called"), ("g", "goes"), ("p", "planned"), ("w", "waits")])
        self.assertEqual(hall.estate_now().entries_in("o"), [("c", 15, 25, (4,)), ("p", 70, 80, (2,))])

    def test_one_that_is_called(self):
        hall = busy_hall()
        self.assertEqual(hall.step(("quit", "c")), [("kept", 10, "l")])
        self.assertEqual(self.states(hall), [("g", "goes"), ("l", "goes"), ("p", "planned"), ("w", "waits")])
        self.assertEqual(hall.estate_now().entries_in("o"), [("l", 3, 43, (3,)), ("p", 70, 80, (2,))])
        self.assertEqual(hall.taking_rows(), [])

    def test_one_that_is_planned(self):
        hall = busy_hall()
        self.assertEqual(hall.step(("quit", "p")), [])
        self.assertEqual(self.states(hall), [("c", "called"), ("g", "goes"), ("l", "leaves"), ("w", "waits")])
        self.assertEqual(hall.estate_now().entries_in("o"), [("c", 15, 25, (4,)), ("l", 3, 15, (3,))])

    def test_none_of_that_name(self):
        hall = busy_hall()
        for name in ("e", "f", "h", "x", "o"):
            self.assert_refused(NoGang, hall, "quit", name)
        hall.step(("quit", "w"))
        self.assert_refused(NoGang, hall, "quit", "w")


class Asks(HallCase):
    def test_rows_of_all_states(self):
        hall = busy_hall()
        self.assertEqual(hall.gang_rows(), [
            ("c", "called", 15, 25, (("o", 4),)), ("g", "goes", 3, 93, (("p", 2),)),
            ("l", "leaves", 3, 15, (("o", 3),)), ("p", "planned", 70, 80, (("o", 2),)),
            ("w", "waits", None, None, ())])

    def test_rows_for_shares(self):
        # e began as the first one, h as the second one.
        hall = busy_hall()
        self.assertEqual([(gang[0], number) for gang, number in hall.share_rows()], [("g", 4), ("c", 5)])
        self.assertEqual(hall.share_rows()[0][0], gang_of("g", guild="h", many=2, length=90, how="near"))
        self.assertEqual(hall.leavable_names(), ["g"])

    def test_kinds_of_values(self):
        hall = busy_hall()
        for told in (hall.waiting_gangs(), hall.gang_rows(), hall.taking_rows(), hall.barred_rows(), hall.share_rows(),
                     hall.history_rows(), hall.step(("quit", "c"))):
            self.assertIs(type(told), list)
            self.assertTrue(told)
            for row in told:
                self.assertIs(type(row), tuple)
        self.assertIs(type(hall.due_rows()), dict)
        self.assertIs(type(hall.leavable_names()), list)

    def test_all_that_was_told(self):
        hall = busy_hall()
        self.assertEqual(hall.history_rows(), [
            ("begun", 0, "e", (("o", 1),)), ("ended", 3, "e"),
            ("planned", 3, "f", 50, (("o", 4), ("p", 2), ("r", 1))), ("barred", 3, "f", "r"),
            ("begun", 3, "h", (("o", 1),)), ("begun", 3, "l", (("o", 3),)), ("begun", 3, "g", (("p", 2),)),
            ("called", 10, "c", 15, (("o", 4),), (("l", "rank"),)), ("planned", 10, "p", 70, (("o", 2),))])
        told = hall.step(("quit", "c"))
        self.assertEqual(hall.history_rows()[-1:], told)

    def test_two_halls_go_on_apart(self):
        one, other = busy_hall(), busy_hall()
        before = all_of_hall(other)
        one.step(("time", 60))
        one.step(("guild", "g", (9,)))
        one.step(("house", "z", "x", (9,)))
        self.assertEqual(all_of_hall(other), before)

    def test_the_estate_told_is_a_twin(self):
        hall = busy_hall()
        before = all_of_hall(hall)
        estate = hall.estate_now()
        self.assertIsNot(estate, hall.estate_now())
        estate.drop_house("o")
        estate.set_state("p", "shut")
        estate.drop_gang("g")
        self.assertEqual(all_of_hall(hall), before)
        estate = hall.estate_now()
        told = estate.booked_rows()
        hall.step(("time", 60))
        self.assertEqual(estate.booked_rows(), told)


if __name__ == "__main__":
    unittest.main()
