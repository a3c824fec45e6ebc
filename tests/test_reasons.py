"""Reasons [22], and what is asked of fairness, rooms and houses [23]."""

import itertools
import random
import unittest

from makers import all_of, all_of_hall, book, estate_of, gang_of, hall_of

from clusterhall.books import Book
from clusterhall.errors import NoGang, TooMuch
from clusterhall.reasons import fetch_for, overborne, reason_of, shows_reason, spare_now, unfair


def barred_hall():
    """z waits: from k and l it may take, but u and v bar it, which are planned, as w is, too; c is of rank 9."""
    hall = hall_of(("o", "x", (4,)), ("p", "y", (1,)))
    hall.step(("gang", gang_of("c", rank=9, length=200, how="near")))
    hall.step(("gang", gang_of("l", many=3, length=20)))
    hall.step(("gang", gang_of("k", many=1, length=20)))
    hall.step(("plan", gang_of("u", many=1, length=5, how="near"), 25))
    hall.step(("plan", gang_of("v", many=2, length=15, how="near"), 30))
    hall.step(("plan", gang_of("w", many=1, length=20, how="near"), 60))
    hall.step(("gang", gang_of("z", rank=5, many=3, how="near", length=30)))
    return hall


def full_hall():
    """z waits: it may take from m and n, which are of rank 0, but l and k are of rank 9."""
    hall = hall_of(("o", "x", (4,)), ("p", "y", (4,)))
    for name, rank, many in (("l", 9, 3), ("m", 0, 1), ("k", 9, 3), ("n", 0, 1)):
        hall.step(("gang", gang_of(name, rank=rank, many=many, length=100)))
    hall.step(("gang", gang_of("z", rank=5, many=3)))
    return hall


def soon_hall():
    """z waits for b, which ends within the grace; a goes on."""
    hall = hall_of(("o", "x", (2,)), ("p", "y", (1,)))
    hall.step(("gang", gang_of("a", length=50)))
    hall.step(("gang", gang_of("b", many=2, length=9)))
    hall.step(("time", 4))
    hall.step(("gang", gang_of("z", rank=9)))
    return hall


class ReasonOf(unittest.TestCase):
    def test_never(self):
        hall = hall_of(("o", "x", (4,)), ("p", "y", (3,)))
        hall.step(("gang", gang_of("a", many=8)))
        hall.step(("gang", gang_of("b", many=3, how="apart")))
        hall.step(("gang", gang_of("c", many=5, how="near")))
        hall.step(("gang", gang_of("d", many=2, how="wide", want=(4,))))
        self.assertEqual(reason_of(hall, "a"), ("never", (("o", 4), ("p", 3))))
        self.assertEqual(reason_of(hall, "b"), ("never", (("o", 1), ("p", 1))))
        self.assertEqual(reason_of(hall, "c"), ("never", (("o", 4), ("p", 3))))
        self.assertEqual(reason_of(hall, "d"), ("never", (("o", 1), ("p", 0))))

    def test_never_by_the_whole_rooms_of_open_houses(self):
        hall = hall_of(("o", "x", (4,)), ("p", "y", (3,)))
        hall.step(("gang", gang_of("a", rank=9, many=6, length=50)))
        hall.step(("gang", gang_of("b", many=7)))
        self.assertEqual(reason_of(hall, "b")[0], "room")
        hall.step(("shut", "p"))
        self.assertEqual(reason_of(hall, "b"), ("never", (("o", 4),)))
        hall.step(("shut", "o"))
        self.assertEqual(reason_of(hall, "b"), ("never", ()))

    def test_never_without_houses(self):
        hall = hall_of()
        hall.step(("gang", gang_of("a")))
        self.assertEqual(reason_of(hall, "a"), ("never", ()))

    def test_soon(self):
        hall = soon_hall()
        self.assertEqual(reason_of(hall, "z"), ("soon", (("o", 1),)))
        hall.step(("time", 8))
        self.assertEqual(reason_of(hall, "z"), ("soon", (("o", 1),)))

    def test_plans(self):
        hall = barred_hall()
        self.assertEqual(reason_of(hall, "z"), ("plans", ("k", "l"), ("u", "v")))
        hall.step(("quit", "z"))
        hall.step(("gang", gang_of("z", rank=5, many=4, how="near", length=60)))
        self.assertEqual(reason_of(hall, "z"), ("room", ("k", "l"), (("o", 1), ("p", 1))))

    def test_plans_without_names(self):
        hall = hall_of(("o", "x", (4,)))
        hall.step(("plan", gang_of("p", many=4), 20))
        hall.step(("gang", gang_of("z", rank=9, many=4, length=21)))
        self.assertEqual(reason_of(hall, "z"), ("plans", (), ("p",)))

    def test_several_bars(self):
        hall = hall_of(("o", "x", (4,)))
        for name, many, begin in (("u", 2, 25), ("t", 2, 25), ("v", 1, 40)):
            hall.step(("plan", gang_of(name, many=many), begin))
        hall.step(("gang", gang_of("z", many=3, length=30)))
        self.assertEqual(reason_of(hall, "z"), ("plans", (), ("t", "u")))
        hall.step(("quit", "z"))
        hall.step(("gang", gang_of("z", many=2, length=30)))
        self.assertEqual(reason_of(hall, "z"), ("plans", (), ("t",)))
        hall.step(("quit", "z"))
        hall.step(("gang", gang_of("z", many=4, length=60)))
        self.assertEqual(reason_of(hall, "z"), ("plans", (), ("t", "u", "v")))

    def test_room(self):
        self.assertEqual(reason_of(full_hall(), "z"), ("room", ("n", "m"), (("o", 1), ("p", 1))))
        hall = hall_of(("o", "x", (4,)))
        hall.step(("gang", gang_of("a", rank=9, many=3, length=50)))
        hall.step(("plan", gang_of("p"), 90))
        hall.step(("gang", gang_of("z", many=2)))
        self.assertEqual(reason_of(hall, "z"), ("room", (), (("o", 1),)))

    def test_the_first_that_is_so(self):
        # Whoever can't be placed in the whole site is told so, whatever else is so.
        hall = barred_hall()
        hall.step(("gang", gang_of("y", rank=9, many=6, length=30)))
        self.assertEqual(reason_of(hall, "y"), ("never", (("o", 4), ("p", 1))))
        # One that could begin soon is told so, whomever it may take from, and whatever is planned.
        hall = soon_hall()
        hall.step(("plan", gang_of("q"), 60))
        self.assertEqual(hall.leavable_names(), ["a", "b"])
        self.assertEqual(reason_of(hall, "z")[0], "soon")

    def test_none_of_that_name_waits(self):
        hall = full_hall()
        for name in ("l", "m", "o", "q"):
            with self.assertRaises(NoGang):
                reason_of(hall, name)
        hall = barred_hall()
        with self.assertRaises(NoGang):
            reason_of(hall, "u")
        hall = hall_of(("o", "x", (4,)))
        hall.step(("gang", gang_of("a", many=4, length=50)))
        hall.step(("gang", gang_of("b", rank=1, many=4)))
        for name in ("a", "b"):
            with self.assertRaises(NoGang):
                reason_of(hall, name)

    def test_kinds_of_values(self):
        for hall, word, many in ((barred_hall(), "plans", 3), (full_hall(), "room", 3), (soon_hall(), "soon", 2)):
            reason = reason_of(hall, "z")
            self.assertIs(type(reason), tuple)
            self.assertEqual((reason[0], len(reason)), (word, many))
            self.assertEqual([type(part) for part in reason[1:]], [tuple] * (many - 1))

    def test_the_hall_stays_as_it_was(self):
        for hall in (barred_hall(), full_hall(), soon_hall()):
            before = all_of_hall(hall)
            reason = reason_of(hall, "z")
            self.assertIs(shows_reason(hall, "z", reason), True)
            self.assertEqual(reason_of(hall, "z"), reason)
            fetch_for(hall, "z")
            spare_now(hall)
            self.assertEqual(all_of_hall(hall), before)


class ShowsReason(unittest.TestCase):
    def assert_shown(self, hall, *reasons):
        for reason in reasons:
            self.assertIs(shows_reason(hall, "z", reason), True, reason)

    def assert_not_shown(self, hall, *reasons):
        for reason in reasons:
            self.assertIs(shows_reason(hall, "z", reason), False, reason)

    def test_never(self):
        hall = hall_of(("o", "x", (4,)), ("p", "y", (3,)))
        hall.step(("gang", gang_of("z", many=8)))
        self.assert_shown(hall, ("never", (("o", 4), ("p", 3))))
        self.assert_not_shown(hall, ("never", (("o", 4), ("p", 2))), ("never", (("o", 4),)), ("never", ()),
                              ("never", (("p", 3), ("o", 4))), ("never", (("o", 4), ("p", 3), ("q", 0))),
                              ("never", (("o", 4), ("p", 3), ("p", 3))), ("never", (("o", 5), ("p", 3))))
        self.assert_not_shown(hall, ("soon", (("o", 4), ("p", 3))), ("soon", ()), ("plans", (), ()))
        self.assert_shown(hall, ("room", (), (("o", 4), ("p", 3))))

    def test_never_where_it_could_be_placed(self):
        hall = full_hall()
        self.assert_not_shown(hall, ("never", (("o", 3), ("p", 3))), ("never", (("o", 1), ("p", 1))))

    def test_soon(self):
        hall = soon_hall()
        self.assert_shown(hall, ("soon", (("o", 1),)), ("soon", (("p", 1),)))
        self.assert_not_shown(hall, ("soon", ()), ("soon", (("o", 2),)), ("soon", (("o", 1), ("p", 1))),
                              ("soon", (("q", 1),)), ("soon", (("o", 0),)))
        self.assert_not_shown(hall, ("never", (("o", 1), ("p", 1))), ("room", ("b", "a"), (("o", 1), ("p", 1))),
                              ("plans", ("b", "a"), ()))

    def test_soon_is_behind_the_grace(self):
        hall = hall_of(("o", "x", (2,)))
        hall.step(("gang", gang_of("a", many=2, length=9, rank=9)))
        hall.step(("gang", gang_of("z")))
        for time in range(9):
            hall.step(("time", time))
            self.assertIs(shows_reason(hall, "z", ("soon", (("o", 1),))), time >= 4)
            self.assertIs(shows_reason(hall, "z", ("room", (), (("o", 0),))), time < 4)
            self.assertEqual(reason_of(hall, "z")[0], "room" if time < 4 else "soon")

    def test_plans(self):
        hall = barred_hall()
        names, bars = ("k", "l"), ("u", "v")
        self.assert_shown(hall, ("plans", names, bars), ("plans", names, ("v", "u")))
        self.assert_not_shown(hall, ("plans", names, ()), ("plans", names, ("u",)), ("plans", names, ("v",)),
                              ("plans", names, ("w",)), ("plans", names, ("u", "w")), ("plans", names, ("u", "v", "w")),
                              ("plans", names, ("w", "v", "u")), ("plans", names, ("u", "v", "v")),
                              ("plans", names, ("v", "v")))
        for other in ("z", "l", "c", "q", ""):
            self.assert_not_shown(hall, ("plans", names, (other,)), ("plans", names, (other, "u")),
                                  ("plans", names, ("u", "v", other)))
        for others in ((), ("k",), ("l",), ("l", "k"), ("k", "l", "c"), ("c", "k", "l"), ("k", "l", "l"), ("q",),
                       ("u", "v"), ("k", "l", "z")):
            self.assert_not_shown(hall, ("plans", others, bars))

    def test_plans_in_any_order(self):
        hall = hall_of(("o", "x", (4,)))
        for name, many, begin in (("u", 2, 25), ("t", 2, 25), ("v", 1, 40)):
            hall.step(("plan", gang_of(name, many=many), begin))
        hall.step(("gang", gang_of("z", many=3, length=30)))
        self.assert_shown(hall, ("plans", (), ("t", "u")), ("plans", (), ("u", "t")))
        self.assert_not_shown(hall, ("plans", (), ("t",)), ("plans", (), ("u",)), ("plans", (), ("t", "u", "v")),
                              ("plans", (), ("t", "u", "t")), ("plans", (), ("t", "v")))

    def test_room(self):
        hall = full_hall()
        counts = (("o", 1), ("p", 1))
        self.assert_shown(hall, ("room", ("n", "m"), counts))
        self.assert_not_shown(hall, ("room", ("m", "n"), counts), ("room", ("n",), counts), ("room", (), counts),
                              ("room", ("n", "m", "l"), counts), ("room", ("n", "m", "n"), counts),
                              ("room", ("n", "m", "q"), counts), ("room", ("q", "m"), counts))
        self.assert_not_shown(hall, ("room", ("n", "m"), (("o", 1), ("p", 0))), ("room", ("n", "m"), (("o", 1),)),
                              ("room", ("n", "m"), ()), ("room", ("n", "m"), counts[::-1]),
                              ("room", ("n", "m"), (("o", 0), ("p", 0))))
        self.assert_not_shown(hall, ("room", (), (("o", 0), ("p", 0))))
        self.assert_not_shown(hall, ("plans", ("n", "m"), ()))

    def test_room_where_it_could_be_placed(self):
        # Those are the counts with the names cut, but by them it could be placed.
        hall = soon_hall()
        self.assert_not_shown(hall, ("room", ("b", "a"), (("o", 1), ("p", 1))))

    def test_one_that_does_not_wait(self):
        hall = full_hall()
        reason = reason_of(hall, "z")
        for name in ("l", "m", "q", "o", ""):
            self.assertIs(shows_reason(hall, name, reason), False)
            self.assertIs(shows_reason(hall, name, ("never", ())), False)
            self.assertIs(shows_reason(hall, name, ("soon", (("o", 1),))), False)
        hall.step(("quit", "z"))
        self.assertIs(shows_reason(hall, "z", reason), False)

    def test_a_reason_of_another_time(self):
        hall = full_hall()
        reason = reason_of(hall, "z")
        hall.step(("time", 50))
        self.assert_shown(hall, reason)
        hall.step(("time", 95))
        self.assert_not_shown(hall, reason)
        self.assertEqual(reason_of(hall, "z")[0], "soon")


class Unfair(unittest.TestCase):
    DUES = {"g": (0,), "h": (4,)}

    def test_no_gangs(self):
        self.assertIsNone(unfair(estate_of(("o", "x", (4,))), self.DUES, [], [], [], 0, 5))

    def test_one_that_could_begin_now(self):
        estate = estate_of(("o", "x", (4,)))
        gangs = [gang_of("c", many=5), gang_of("b", many=4), gang_of("a", many=4)]
        self.assertEqual(unfair(estate, self.DUES, [], [], gangs, 0, 5), "b")
        self.assertEqual(unfair(estate, self.DUES, [], [], gangs[::-1], 0, 5), "a")
        self.assertIsNone(unfair(estate, self.DUES, [], [], gangs[:1], 0, 5))

    def busy(self):
        estate = estate_of(("o", "x", (4,)))
        low = gang_of("low", rank=3, many=4, length=50)
        estate.book_gang(low, (("o", 4),), 0)
        return estate, [(low, 1)]

    def test_one_that_could_be_called(self):
        estate, rows = self.busy()
        same, high, owed = gang_of("s", rank=3), gang_of("t", rank=4), gang_of("u", guild="h", many=4)
        self.assertIsNone(unfair(estate, self.DUES, rows, ["low"], [same], 2, 5))
        self.assertEqual(unfair(estate, self.DUES, rows, ["low"], [same, high, owed], 2, 5), "t")
        self.assertEqual(unfair(estate, self.DUES, rows, ["low"], [same, owed, high], 2, 5), "u")
        self.assertIsNone(unfair(estate, self.DUES, rows, [], [high, owed], 2, 5))
        self.assertIsNone(unfair(estate, {"g": (4,), "h": (4,)}, rows, ["low"], [owed], 2, 5))
        self.assertIsNone(unfair(estate, {"g": (0,), "h": (3,)}, rows, ["low"], [owed], 2, 5))

    def test_one_that_could_begin_soon_is_none(self):
        estate, rows = self.busy()
        high = gang_of("t", rank=4)
        self.assertEqual(unfair(estate, self.DUES, rows, ["low"], [high], 44, 5), "t")
        self.assertIsNone(unfair(estate, self.DUES, rows, ["low"], [high], 45, 5))
        self.assertIsNone(unfair(estate, self.DUES, rows, ["low"], [high], 49, 5))
        self.assertEqual(unfair(estate, self.DUES, rows, ["low"], [high], 50, 5), "t")

    def test_one_that_plans_bar_is_none(self):
        estate, rows = self.busy()
        book(estate, "p", 60, 70, (("o", 4),))
        self.assertIsNone(unfair(estate, self.DUES, rows, ["low"], [gang_of("t", rank=4, length=60)], 2, 5))
        self.assertEqual(unfair(estate, self.DUES, rows, ["low"], [gang_of("t", rank=4, length=53)], 2, 5), "t")
        self.assertIsNone(unfair(estate, self.DUES, rows, ["low"], [gang_of("t", rank=4, length=54)], 2, 5))

    def test_nothing_handed_in_is_changed(self):
        estate, rows = self.busy()
        handed = (dict(self.DUES), list(rows), ["low"], [gang_of("t", rank=4), gang_of("u", guild="h")])
        before = all_of(estate)
        unfair(estate, *handed, 2, 5)
        self.assertEqual(handed, (self.DUES, rows, ["low"], [gang_of("t", rank=4), gang_of("u", guild="h")]))
        self.assertEqual(all_of(estate), before)

    def test_none_of_a_halls_own(self):
        for hall in (barred_hall(), full_hall(), soon_hall()):
            self.assertIsNone(unfair(hall.estate_now(), hall.due_rows(), hall.share_rows(), hall.leavable_names(),
                                     hall.waiting_gangs(), hall.time_now(), hall.grace_told()))


class Overborne(unittest.TestCase):
    def test_no_rows(self):
        self.assertIsNone(overborne((0, 0), []))

    def test_rows_that_touch(self):
        rows = [("a", 0, 10, (4,)), ("b", 10, 20, (4,)), ("c", 20, 21, (4,))]
        for some in itertools.permutations(rows):
            self.assertIsNone(overborne((4,), list(some)))
            self.assertEqual(overborne((3,), list(some)), 0)

    def test_rows_that_overlap(self):
        rows = [("a", 0, 11, (4,)), ("b", 10, 20, (1,)), ("c", 15, 16, (3,))]
        for some in itertools.permutations(rows):
            self.assertIsNone(overborne((5,), list(some)))
            self.assertEqual(overborne((4,), list(some)), 10)
            self.assertEqual(overborne((3,), list(some)), 0)

    def test_just_the_room_and_one_more_in_one_ware(self):
        rows = [("a", 2, 9, (1, 5, 0)), ("b", 4, 9, (2, 1, 0)), ("c", 6, 7, (0, 0, 7)), ("d", 6, 8, (3, 0, 0))]
        self.assertIsNone(overborne((6, 6, 7), rows))
        self.assertEqual(overborne((5, 6, 7), rows), 6)
        self.assertEqual(overborne((6, 5, 7), rows), 4)
        self.assertEqual(overborne((6, 6, 6), rows), 6)
        self.assertEqual(overborne((6, 4, 6), rows), 2)

    def test_several_of_one_key(self):
        self.assertEqual(overborne((3,), [("a", 0, 9, (2,)), ("a", 5, 9, (2,))]), 5)

    def test_of_a_book(self):
        book_of_house = Book((4,))
        book_of_house.put_entry("a", 3, 9, (4,))
        rows = book_of_house.entry_rows()
        self.assertIsNone(overborne(book_of_house.whole_room(), rows))
        with self.assertRaises(TooMuch) as caught:
            book_of_house.put_entry("b", 0, 20, (1,))
        self.assertEqual(overborne((4,), rows + [("b", 0, 20, (1,))]), caught.exception.time)

    def test_against_each_time_by_itself(self):
        chance = random.Random(23)
        seen = set()
        for turn in range(500):
            rows = []
            for key in "abcdefg"[:chance.randrange(8)]:
                begin = chance.randrange(20)
                rows.append((key, begin, begin + chance.randrange(1, 10), (chance.randrange(4), chance.randrange(4))))
            handed = list(rows)
            over = [time for time in range(40) for ware in (0, 1)
                    if sum(row[3][ware] for row in rows if row[1] <= time < row[2]) > 5]
            self.assertEqual(overborne((5, 5), rows), over[0] if over else None)
            self.assertEqual(rows, handed)
            seen.add(bool(over))
        self.assertEqual(seen, {True, False})


class Houses(unittest.TestCase):
    def kind_hall(self):
        hall = hall_of(("o", "x", (4,)))
        hall.step(("kind", "small", "x", (1,), 9))
        hall.step(("kind", "big", "x", (3,), 1))
        hall.step(("kind", "also", "x", (3,), 1))
        return hall

    def test_fetch_for(self):
        hall = self.kind_hall()
        hall.step(("gang", gang_of("a", rank=9, many=4, length=20)))
        for name, many in (("b", 1), ("c", 3), ("d", 4), ("e", 9), ("f", 10)):
            hall.step(("gang", gang_of(name, many=many)))
        self.assertEqual([fetch_for(hall, name) for name in "bcdef"],
                         [("also", 1), ("also", 1), ("small", 4), ("small", 9), None])

    def test_fetch_for_is_by_now(self):
        # Behind the grace it could be placed without any, but now it can't.
        hall = self.kind_hall()
        hall.step(("gang", gang_of("a", rank=9, many=4, length=3)))
        hall.step(("gang", gang_of("b", many=2)))
        self.assertEqual(reason_of(hall, "b")[0], "soon")
        self.assertEqual(fetch_for(hall, "b"), ("also", 1))

    def test_what_was_fetched_lets_it_begin(self):
        hall = self.kind_hall()
        hall.step(("gang", gang_of("a", rank=9, many=4, length=20)))
        hall.step(("gang", gang_of("b", many=3)))
        kind, n = fetch_for(hall, "b")
        self.assertEqual(hall.step(("fetch", kind, "new")), [("begun", 0, "b", (("new", 3),))])

    def test_no_kinds(self):
        hall = hall_of()
        hall.step(("gang", gang_of("a")))
        self.assertIsNone(fetch_for(hall, "a"))

    def test_none_of_that_name_waits(self):
        hall = barred_hall()
        for name in ("c", "u", "q", "o"):
            with self.assertRaises(NoGang):
                fetch_for(hall, name)

    def test_spare_now(self):
        hall = self.kind_hall()
        self.assertEqual(spare_now(hall), [])
        for kind, name in (("small", "t"), ("small", "s"), ("big", "b"), ("also", "a")):
            hall.step(("fetch", kind, name))
        self.assertEqual(spare_now(hall), ["a", "b", "s", "t"])
        hall.step(("gang", gang_of("w", many=60, want=(2,))))
        self.assertEqual(spare_now(hall), ["s", "t"])
        hall.step(("gang", gang_of("v", many=60, want=(1,))))
        self.assertEqual(spare_now(hall), [])
        hall.step(("quit", "v"))
        hall.step(("gang", gang_of("u", how="near", want=(1,), length=30)))
        self.assertEqual(spare_now(hall), ["s", "t"])
        hall.step(("quit", "w"))
        self.assertEqual(spare_now(hall), ["b", "s", "t"])
        hall.step(("shut", "s"))
        self.assertEqual(spare_now(hall), ["b", "s", "t"])
        hall.step(("time", 30))
        self.assertEqual(spare_now(hall), ["a", "b", "s", "t"])
        for name in spare_now(hall):
            self.assertEqual(hall.step(("let", name)), [])
        self.assertEqual(spare_now(hall), [])
        self.assertIsNot(spare_now(hall), spare_now(hall))


if __name__ == "__main__":
    unittest.main()
