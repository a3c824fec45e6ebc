"""The estate [10], [11], [12], and what [2] says of objects."""

import itertools
import random
import unittest

from makers import all_of, book, estate_of, gang_of

from clusterhall.books import Book
from clusterhall.errors import HallError, NoGang, NoHouse, Taken, TooMuch
from clusterhall.estate import Estate
from clusterhall.placing import placed

GREAT = 10 ** 12
LATEST = 2 * 10 ** 9


def three_houses():
    """Houses a, b, c of room 4, 6, 8, added in another order."""
    return estate_of(("b", "x", (6,)), ("c", "y", (8,)), ("a", "y", (4,)))


class EstateCase(unittest.TestCase):
    def assert_refused(self, refusal, estate, action, *handed):
        """That an action is refused, and changes nothing; tells the refusal."""
        before = all_of(estate)
        with self.assertRaises(refusal) as caught:
            getattr(estate, action)(*handed)
        self.assertIs(type(caught.exception), refusal)
        self.assertEqual(all_of(estate), before)
        return caught.exception

    def assert_too_much(self, time, estate, action, *handed):
        self.assertEqual(self.assert_refused(TooMuch, estate, action, *handed).time, time)


class Houses(EstateCase):
    def test_no_house_at_first(self):
        estate = Estate()
        self.assertEqual(estate.house_rows(), [])
        self.assertEqual(estate.booked_rows(), [])
        self.assertEqual(estate.site_for(0, 9), [])
        self.assertEqual(estate.whole_site(), [])
        self.assertEqual(estate.house_loads(0), [])
        self.assertEqual(estate.forget_past(LATEST), [])
        self.assertIsNone(estate.edge_after(0))
        self.assertIsNone(estate.end_after(0))

    def test_a_house_is_open_and_empty_at_first(self):
        estate = Estate()
        estate.add_house("oak", "north", (3, 0), "big")
        self.assertEqual(estate.house_rows(), [("oak", "north", (3, 0), "big", "open")])
        self.assertEqual(estate.entries_in("oak"), [])
        self.assertEqual(estate.house_loads(0), [("oak", (0, 0))])

    def test_rows_by_rising_names_and_kinds_that_are_none(self):
        estate = Estate()
        estate.add_house("b", "x", (1,), None)
        estate.add_house("c", "x", (2,), "k")
        estate.add_house("ab", "z", (3,), None)
        estate.add_house("a", "y", (4,), "none")
        self.assertEqual(estate.house_rows(), [("a", "y", (4,), "none", "open"), ("ab", "z", (3,), None, "open"),
                                               ("b", "x", (1,), None, "open"), ("c", "x", (2,), "k", "open")])

    def test_a_house_that_is_there(self):
        estate = three_houses()
        self.assert_refused(Taken, estate, "add_house", "a", "y", (4,), None)
        self.assert_refused(Taken, estate, "add_house", "b", "z", (9,), "k")
        estate.set_state("c", "shut")
        self.assert_refused(Taken, estate, "add_house", "c", "y", (8,), None)

    def test_states(self):
        estate = three_houses()
        estate.set_state("b", "shut")
        self.assertEqual([row[4] for row in estate.house_rows()], ["open", "shut", "open"])
        estate.set_state("b", "shut")
        estate.set_state("c", "open")
        self.assertEqual([row[4] for row in estate.house_rows()], ["open", "shut", "open"])
        estate.set_state("b", "open")
        self.assertEqual([row[4] for row in estate.house_rows()], ["open", "open", "open"])

    def test_a_house_with_entries_that_is_shut(self):
        estate = three_houses()
        book(estate, "g", 5, 9, (("a", 1), ("b", 2)))
        estate.set_state("b", "shut")
        self.assertEqual(estate.entries_in("b"), [("g", 5, 9, (2,))])
        self.assertEqual(estate.booked_rows(), [("g", 5, 9, (("a", 1), ("b", 2)))])
        self.assertEqual(estate.house_loads(5), [("a", (1,)), ("b", (2,)), ("c", (0,))])
        self.assertEqual(estate.edge_after(0), 5)
        estate.stretch_gang("g", 20)
        self.assertEqual(estate.entries_in("b"), [("g", 5, 20, (2,))])
        estate.set_state("b", "open")
        self.assertEqual(estate.site_for(6, 7), [("a", "y", (3,)), ("b", "x", (4,)), ("c", "y", (8,))])

    def test_dropping_a_house(self):
        estate = three_houses()
        self.assertEqual(estate.drop_house("b"), [])
        self.assertEqual([row[0] for row in estate.house_rows()], ["a", "c"])
        self.assert_refused(NoHouse, estate, "drop_house", "b")
        self.assertEqual([row[0] for row in estate.whole_site()], ["a", "c"])

    def test_a_dropped_houses_keys(self):
        estate = three_houses()
        book(estate, "h", 5, 9, (("b", 1),))
        book(estate, "ga", 30, 40, (("a", 1), ("b", 1), ("c", 1)))
        book(estate, "g", 0, 9, (("b", 2), ("c", 1)))
        book(estate, "f", 0, 9, (("a", 2), ("c", 1)))
        self.assertEqual(estate.drop_house("b"), ["g", "ga", "h"])
        self.assertEqual(estate.booked_rows(), [("f", 0, 9, (("a", 2), ("c", 1))), ("g", 0, 9, (("c", 1),)),
                                                ("ga", 30, 40, (("a", 1), ("c", 1)))])
        self.assertEqual(estate.drop_house("c"), ["f", "g", "ga"])
        self.assertEqual(estate.drop_house("a"), ["f", "ga"])
        self.assertEqual(estate.booked_rows(), [])

    def test_a_house_of_a_dropped_ones_name_is_a_new_one(self):
        estate = three_houses()
        book(estate, "g", 5, 9, (("a", 1), ("b", 2)))
        estate.set_state("b", "shut")
        estate.drop_house("b")
        estate.add_house("b", "z", (7,), "k")
        self.assertEqual(estate.house_rows()[1], ("b", "z", (7,), "k", "open"))
        self.assertEqual(estate.entries_in("b"), [])
        self.assertEqual(estate.booked_rows(), [("g", 5, 9, (("a", 1),))])
        estate.stretch_gang("g", 12)
        estate.cut_gang("g", 11)
        self.assertEqual(estate.booked_rows(), [("g", 5, 11, (("a", 1),))])
        estate.drop_gang("g")
        self.assertEqual(estate.booked_rows(), [])

    def test_no_house(self):
        estate = three_houses()
        for name in ("d", "aa", ""):
            self.assert_refused(NoHouse, estate, "set_state", name, "shut")
            self.assert_refused(NoHouse, estate, "drop_house", name)
            self.assert_refused(NoHouse, estate, "entries_in", name)


class BookGang(EstateCase):
    def test_entries_in_each_house_of_the_placing(self):
        estate = estate_of(("a", "x", (9, 9)), ("b", "x", (9, 9)), ("c", "x", (9, 9)))
        estate.book_gang(("g", "guild", 3, 4, (1, 2), "any", 30), (("a", 1), ("c", 3)), 7)
        self.assertEqual(estate.entries_in("a"), [("g", 7, 37, (1, 2))])
        self.assertEqual(estate.entries_in("b"), [])
        self.assertEqual(estate.entries_in("c"), [("g", 7, 37, (3, 6))])
        self.assertEqual(estate.booked_rows(), [("g", 7, 37, (("a", 1), ("c", 3)))])

    def test_begin_and_end(self):
        estate = estate_of(("a", "x", (9,)))
        estate.book_gang(gang_of("g", length=1), (("a", 1),), 0)
        estate.book_gang(gang_of("h", length=10 ** 6, want=(8,)), (("a", 1),), 10 ** 9)
        self.assertEqual(estate.entries_in("a"), [("g", 0, 1, (1,)), ("h", 10 ** 9, 10 ** 9 + 10 ** 6, (8,))])

    def test_sixty_tasks_of_great_wants(self):
        estate = estate_of(("a", "x", (60 * GREAT, 0)))
        estate.book_gang(gang_of("g", many=60, want=(GREAT, 0)), (("a", 60),), 3)
        self.assertEqual(estate.entries_in("a"), [("g", 3, 13, (60 * GREAT, 0))])

    def test_shut_houses_are_booked_too(self):
        estate = three_houses()
        estate.set_state("b", "shut")
        book(estate, "g", 0, 5, (("b", 6),))
        self.assertEqual(estate.entries_in("b"), [("g", 0, 5, (6,))])
        self.assert_too_much(3, estate, "book_gang", gang_of("h"), (("b", 1),), 3)

    def test_taken_where_it_is_booked(self):
        estate = three_houses()
        book(estate, "g", 0, 5, (("b", 1),))
        self.assert_refused(Taken, estate, "book_gang", gang_of("g"), (("b", 1),), 0)
        self.assert_refused(Taken, estate, "book_gang", gang_of("g"), (("a", 1),), 20)

    def test_taken_ahead_of_no_house_ahead_of_too_much(self):
        estate = three_houses()
        book(estate, "g", 0, 5, (("b", 1),))
        self.assert_refused(Taken, estate, "book_gang", gang_of("g", many=9), (("a", 9), ("d", 1)), 0)
        self.assert_refused(Taken, estate, "book_gang", gang_of("g", many=9), (("d", 1),), 20)
        self.assert_refused(Taken, estate, "book_gang", gang_of("g", many=9), (("a", 9),), 20)
        self.assert_refused(NoHouse, estate, "book_gang", gang_of("h", many=9), (("a", 9), ("d", 1)), 0)
        self.assert_refused(NoHouse, estate, "book_gang", gang_of("h", many=9), (("aa", 1), ("b", 9)), 0)
        self.assert_refused(NoHouse, estate, "book_gang", gang_of("h"), (("d", 1),), 0)
        self.assert_too_much(0, estate, "book_gang", gang_of("h", many=9), (("b", 9),), 0)

    def test_too_much_of_the_first_house_by_names(self):
        estate = three_houses()
        book(estate, "f", 8, 20, (("b", 6),))
        book(estate, "g", 6, 20, (("c", 8),))
        self.assert_too_much(8, estate, "book_gang", gang_of("h", many=2), (("b", 1), ("c", 1)), 2)
        self.assert_too_much(6, estate, "book_gang", gang_of("h", many=2), (("a", 1), ("c", 1)), 2)
        self.assert_too_much(8, estate, "book_gang", gang_of("h", many=3), (("a", 1), ("b", 1), ("c", 1)), 2)
        self.assert_too_much(2, estate, "book_gang", gang_of("h", many=7), (("a", 5), ("b", 1), ("c", 1)), 2)

    def test_all_houses_stay_where_a_later_one_refuses(self):
        estate = three_houses()
        book(estate, "g", 6, 20, (("c", 8),))
        self.assert_too_much(6, estate, "book_gang", gang_of("h", many=3), (("a", 1), ("b", 1), ("c", 1)), 2)
        self.assertEqual(estate.entries_in("a"), [])
        self.assertEqual(estate.entries_in("b"), [])
        self.assertEqual(estate.booked_rows(), [("g", 6, 20, (("c", 8),))])
        # It isn't booked, so it may come again.
        estate.book_gang(gang_of("h", many=2), (("a", 1), ("b", 1)), 2)
        self.assertEqual([row[0] for row in estate.booked_rows()], ["g", "h"])

    def test_just_what_is_left(self):
        estate = three_houses()
        book(estate, "g", 0, 10, (("a", 3), ("b", 5)))
        book(estate, "h", 0, 10, (("a", 1), ("b", 1)))
        self.assertEqual(estate.house_loads(9), [("a", (4,)), ("b", (6,)), ("c", (0,))])
        book(estate, "i", 10, 20, (("a", 4), ("b", 6)))

    def test_what_placed_told_may_be_handed_in(self):
        estate = three_houses()
        gang = gang_of("g", many=7)
        placing = placed(estate.site_for(0, 10), 7, (1,), "any")[1]
        estate.book_gang(gang, placing, 0)
        self.assertEqual(estate.booked_rows(), [("g", 0, 10, (("a", 4), ("b", 3)))])
        estate.drop_gang("g")
        self.assertEqual(placing, (("a", 4), ("b", 3)))

    def test_what_booked_rows_told_may_be_handed_in(self):
        estate = three_houses()
        book(estate, "g", 2, 12, (("a", 3), ("c", 5)))
        name, begin, end, placing = estate.booked_rows()[0]
        other = three_houses()
        other.book_gang(gang_of(name, many=8, length=end - begin), placing, begin)
        self.assertEqual(all_of(other), all_of(estate))


class CutStretchDrop(EstateCase):
    def two_gangs(self):
        estate = three_houses()
        book(estate, "g", 10, 20, (("a", 1), ("c", 2)))
        book(estate, "h", 0, 30, (("b", 1), ("c", 1)))
        return estate

    def cut(self, time):
        """What booked_rows tells behind a cut of g, which goes from 10 to 20."""
        estate = self.two_gangs()
        estate.cut_gang("g", time)
        rows = estate.booked_rows()
        self.assertEqual(rows[-1], ("h", 0, 30, (("b", 1), ("c", 1))))
        entries = [row[:3] for row in estate.entries_in("a")]
        self.assertEqual(entries, [row[:3] for row in rows[:-1]])
        self.assertEqual([row[:3] for row in estate.entries_in("c")][:-1], entries)
        return rows[:-1]

    def test_cuts_ahead_of_and_at_the_begin(self):
        for time in (0, 9, 10):
            self.assertEqual(self.cut(time), [])

    def test_cuts_within(self):
        for time in (11, 15, 19):
            self.assertEqual(self.cut(time), [("g", 10, time, (("a", 1), ("c", 2)))])

    def test_cuts_at_and_behind_the_end(self):
        for time in (20, 21, LATEST):
            self.assertEqual(self.cut(time), [("g", 10, 20, (("a", 1), ("c", 2)))])

    def test_one_that_has_no_entry_left_is_not_booked(self):
        estate = self.two_gangs()
        estate.cut_gang("g", 10)
        self.assert_refused(NoGang, estate, "cut_gang", "g", 15)
        self.assert_refused(NoGang, estate, "stretch_gang", "g", 15)
        self.assert_refused(NoGang, estate, "drop_gang", "g")
        book(estate, "g", 5, 8, (("b", 2),))
        self.assertEqual(estate.booked_rows()[0], ("g", 5, 8, (("b", 2),)))

    def test_one_whose_last_house_is_dropped_is_not_booked(self):
        estate = self.two_gangs()
        estate.drop_house("a")
        estate.cut_gang("g", 18)
        self.assertEqual(estate.booked_rows()[0], ("g", 10, 18, (("c", 2),)))
        estate.drop_house("c")
        for action, handed in (("cut_gang", ("g", 15)), ("stretch_gang", ("g", 15)), ("drop_gang", ("g",))):
            self.assert_refused(NoGang, estate, action, *handed)
        self.assertEqual(estate.forget_past(LATEST), ["h"])

    def test_stretch(self):
        estate = self.two_gangs()
        estate.stretch_gang("g", 21)
        self.assertEqual(estate.booked_rows()[0], ("g", 10, 21, (("a", 1), ("c", 2))))
        self.assertEqual(estate.entries_in("a"), [("g", 10, 21, (1,))])
        self.assertEqual(estate.entries_in("c")[0], ("g", 10, 21, (2,)))
        estate.stretch_gang("g", LATEST)
        self.assertEqual(estate.entries_in("c")[0], ("g", 10, LATEST, (2,)))

    def test_stretch_to_no_later_end(self):
        estate = self.two_gangs()
        book(estate, "i", 20, 30, (("a", 4),))
        before = all_of(estate)
        for end in (0, 5, 10, 15, 20):
            estate.stretch_gang("g", end)
            self.assertEqual(all_of(estate), before)

    def test_stretch_is_all_or_none(self):
        estate = self.two_gangs()
        book(estate, "i", 25, 30, (("c", 6),))
        self.assert_too_much(25, estate, "stretch_gang", "g", 26)
        self.assertEqual(estate.entries_in("a"), [("g", 10, 20, (1,))])
        estate.stretch_gang("g", 25)
        self.assertEqual(estate.booked_rows()[0], ("g", 10, 25, (("a", 1), ("c", 2))))

    def test_stretch_tells_the_first_house_by_names(self):
        estate = self.two_gangs()
        book(estate, "i", 24, 30, (("c", 6),))
        book(estate, "j", 28, 30, (("a", 4),))
        self.assert_too_much(28, estate, "stretch_gang", "g", 40)
        self.assert_too_much(24, estate, "stretch_gang", "g", 28)
        estate.drop_gang("j")
        self.assert_too_much(24, estate, "stretch_gang", "g", 40)

    def test_drop(self):
        estate = self.two_gangs()
        estate.drop_gang("g")
        self.assertEqual(estate.booked_rows(), [("h", 0, 30, (("b", 1), ("c", 1)))])
        self.assertEqual(estate.entries_in("a"), [])
        self.assertEqual(estate.entries_in("c"), [("h", 0, 30, (1,))])
        self.assert_refused(NoGang, estate, "drop_gang", "g")

    def test_no_gang(self):
        estate = self.two_gangs()
        for name in ("i", "gg", "", "a"):
            self.assert_refused(NoGang, estate, "cut_gang", name, 0)
            self.assert_refused(NoGang, estate, "stretch_gang", name, 10 ** 9)
            self.assert_refused(NoGang, estate, "drop_gang", name)


class ForgetPast(EstateCase):
    def test_only_gangs_that_are_gone_from_all_books(self):
        estate = three_houses()
        book(estate, "z", 0, 10, (("a", 1), ("b", 1), ("c", 1)))
        book(estate, "g", 0, 10, (("c", 1),))
        book(estate, "h", 0, 11, (("a", 1), ("c", 1)))
        book(estate, "i", 20, 30, (("b", 1),))
        self.assertEqual(estate.forget_past(9), [])
        self.assertEqual(len(estate.booked_rows()), 4)
        self.assertEqual(estate.forget_past(10), ["g", "z"])
        self.assertEqual(estate.booked_rows(), [("h", 0, 11, (("a", 1), ("c", 1))), ("i", 20, 30, (("b", 1),))])
        self.assertEqual([estate.entries_in(name) for name in "abc"],
                         [[("h", 0, 11, (1,))], [("i", 20, 30, (1,))], [("h", 0, 11, (1,))]])
        self.assertEqual(estate.forget_past(10), [])
        self.assertEqual(estate.forget_past(LATEST), ["h", "i"])
        self.assertEqual(estate.booked_rows(), [])

    def test_gangs_that_went_before_are_not_told(self):
        estate = three_houses()
        book(estate, "g", 5, 10, (("a", 1), ("b", 1)))
        book(estate, "h", 5, 10, (("b", 1),))
        book(estate, "i", 5, 10, (("c", 1),))
        book(estate, "j", 5, 10, (("a", 1), ("b", 1), ("c", 1)))
        estate.drop_gang("g")
        estate.cut_gang("i", 5)
        estate.drop_house("b")
        self.assertEqual(estate.forget_past(10), ["j"])

    def test_by_the_ends_as_cut_and_stretched(self):
        estate = three_houses()
        book(estate, "g", 5, 10, (("a", 1), ("b", 1)))
        book(estate, "h", 5, 10, (("b", 1), ("c", 1)))
        estate.cut_gang("g", 8)
        estate.stretch_gang("h", 12)
        self.assertEqual(estate.forget_past(8), ["g"])
        self.assertEqual(estate.forget_past(11), [])
        self.assertEqual(estate.forget_past(12), ["h"])

    def test_shut_houses_too(self):
        estate = three_houses()
        book(estate, "g", 5, 10, (("a", 1),))
        estate.set_state("a", "shut")
        self.assertEqual(estate.forget_past(10), ["g"])
        self.assertEqual(estate.entries_in("a"), [])

    def test_a_forgotten_gang_may_be_booked_again(self):
        estate = three_houses()
        book(estate, "g", 5, 10, (("a", 1),))
        estate.forget_past(10)
        self.assert_refused(NoGang, estate, "drop_gang", "g")
        book(estate, "g", 5, 10, (("b", 2),))
        self.assertEqual(estate.booked_rows(), [("g", 5, 10, (("b", 2),))])


class Asks(EstateCase):
    def setUp(self):
        self.estate = three_houses()
        book(self.estate, "g", 10, 20, (("a", 1), ("c", 2)))
        book(self.estate, "h", 15, 30, (("b", 3), ("c", 1)))

    def test_site_for(self):
        wanted = {(0, 10): (4, 6, 8), (10, 11): (3, 6, 6), (0, 16): (3, 3, 5), (20, 30): (4, 3, 7),
                  (30, 31): (4, 6, 8)}
        for (begin, end), lefts in wanted.items():
            self.assertEqual(self.estate.site_for(begin, end),
                             [("a", "y", (lefts[0],)), ("b", "x", (lefts[1],)), ("c", "y", (lefts[2],))])

    def test_sites_without_shut_houses(self):
        self.estate.set_state("b", "shut")
        self.assertEqual(self.estate.site_for(16, 17), [("a", "y", (3,)), ("c", "y", (5,))])
        self.assertEqual(self.estate.whole_site(), [("a", "y", (4,)), ("c", "y", (8,))])
        self.estate.set_state("a", "shut")
        self.estate.set_state("b", "open")
        self.assertEqual(self.estate.site_for(16, 17), [("b", "x", (3,)), ("c", "y", (5,))])
        self.assertEqual(self.estate.whole_site(), [("b", "x", (6,)), ("c", "y", (8,))])
        self.estate.set_state("b", "shut")
        self.estate.set_state("c", "shut")
        self.assertEqual(self.estate.site_for(16, 17), [])
        self.assertEqual(self.estate.whole_site(), [])

    def test_whole_site_whatever_is_booked(self):
        self.assertEqual(self.estate.whole_site(), [("a", "y", (4,)), ("b", "x", (6,)), ("c", "y", (8,))])

    def test_booked_rows_behind_changes(self):
        estate = self.estate
        book(estate, "f", 0, 5, (("a", 4),))
        self.assertEqual(estate.booked_rows(), [("f", 0, 5, (("a", 4),)), ("g", 10, 20, (("a", 1), ("c", 2))),
                                                ("h", 15, 30, (("b", 3), ("c", 1)))])
        estate.cut_gang("g", 12)
        estate.stretch_gang("h", 33)
        estate.drop_house("a")
        self.assertEqual(estate.booked_rows(), [("g", 10, 12, (("c", 2),)), ("h", 15, 33, (("b", 3), ("c", 1)))])
        estate.drop_house("c")
        self.assertEqual(estate.booked_rows(), [("h", 15, 33, (("b", 3),))])

    def test_house_loads(self):
        wanted = {0: (0, 0, 0), 9: (0, 0, 0), 10: (1, 0, 2), 15: (1, 3, 3), 19: (1, 3, 3), 20: (0, 3, 1),
                  30: (0, 0, 0)}
        for time, loads in wanted.items():
            self.assertEqual(self.estate.house_loads(time), [(name, (load,)) for name, load in zip("abc", loads)])
        self.estate.set_state("c", "shut")
        self.assertEqual(self.estate.house_loads(15), [("a", (1,)), ("b", (3,)), ("c", (3,))])

    def test_entries_in(self):
        self.assertEqual(self.estate.entries_in("c"), [("g", 10, 20, (2,)), ("h", 15, 30, (1,))])
        self.assertEqual(self.estate.entries_in("b"), [("h", 15, 30, (3,))])
        self.assert_refused(NoHouse, self.estate, "entries_in", "g")

    def test_edge_after_at_and_between_edges(self):
        wanted = {0: 10, 9: 10, 10: 15, 14: 15, 15: 20, 19: 20, 20: 30, 29: 30, 30: None, LATEST: None}
        for time, edge in wanted.items():
            self.assertEqual(self.estate.edge_after(time), edge, time)

    def test_end_after_at_and_between_ends(self):
        wanted = {0: 20, 10: 20, 15: 20, 19: 20, 20: 30, 29: 30, 30: None, LATEST: None}
        for time, end in wanted.items():
            self.assertEqual(self.estate.end_after(time), end, time)

    def test_edges_of_shut_and_of_dropped_houses(self):
        self.estate.set_state("a", "shut")
        self.estate.set_state("c", "shut")
        self.assertEqual(self.estate.edge_after(0), 10)
        self.assertEqual(self.estate.end_after(0), 20)
        self.estate.drop_house("a")
        self.estate.drop_house("c")
        self.assertEqual(self.estate.edge_after(0), 15)
        self.assertEqual(self.estate.end_after(0), 30)

    def test_kinds(self):
        estate = self.estate
        lists = [estate.site_for(0, 1), estate.whole_site(), estate.booked_rows(), estate.house_rows(),
                 estate.house_loads(0), estate.entries_in("c"), estate.forget_past(0),
                 estate.twin_estate().drop_house("c")]
        self.assertEqual([type(told) for told in lists], [list] * 8)
        for told in lists[:6]:
            self.assertEqual({type(row) for row in told}, {tuple})
        self.assertEqual({type(row[-1]) for row in lists[0] + lists[1] + lists[2] + lists[4] + lists[5]}, {tuple})
        self.assertEqual({type(pair) for row in lists[2] for pair in row[3]}, {tuple})
        self.assertIs(type(estate.edge_after(0)), int)
        self.assertIs(type(estate.end_after(0)), int)
        self.assertIs(type(estate.twin_estate()), Estate)


class ToldAndTwins(EstateCase):
    def setUp(self):
        self.estate = three_houses()
        book(self.estate, "g", 10, 20, (("a", 1), ("c", 2)))
        book(self.estate, "h", 15, 30, (("b", 3), ("c", 1)))

    def told_lists(self):
        estate = self.estate
        return [estate.site_for(0, 40), estate.whole_site(), estate.booked_rows(), estate.house_rows(),
                estate.house_loads(15), estate.entries_in("c"), estate.forget_past(0)]

    def test_told_lists_may_be_changed(self):
        before = all_of(self.estate)
        for told in self.told_lists():
            told.append("more")
            told.reverse()
            told.clear()
        self.assertEqual(all_of(self.estate), before)
        keys = self.estate.drop_house("c")
        keys.clear()
        self.assertEqual([row[0] for row in self.estate.booked_rows()], ["g", "h"])

    def test_no_two_told_lists_are_the_same(self):
        told = self.told_lists() + self.told_lists()
        self.assertEqual(len({id(one) for one in told}), 14)
        self.assertEqual(told[:7], told[7:])

    def test_told_lists_stay_as_they_were(self):
        told = self.told_lists()
        wanted = [list(one) for one in told]
        self.estate.cut_gang("g", 15)
        self.estate.stretch_gang("h", 40)
        self.estate.set_state("a", "shut")
        self.estate.drop_house("c")
        self.estate.forget_past(15)
        self.estate.add_house("aa", "q", (1,), None)
        self.assertEqual(told, wanted)
        self.assertNotEqual(self.estate.booked_rows(), wanted[2])

    def test_asking_changes_nothing(self):
        before = all_of(self.estate)
        self.assertEqual(all_of(self.estate), before)
        self.assertEqual(all_of(self.estate.twin_estate()), before)

    def test_a_twin_has_the_same(self):
        self.estate.set_state("b", "shut")
        self.estate.add_house("d", "w", (5,), "k")
        self.estate.drop_house("a")
        twin = self.estate.twin_estate()
        self.assertIsNot(twin, self.estate)
        self.assertEqual(all_of(twin), all_of(self.estate))
        self.assert_refused(Taken, twin, "book_gang", gang_of("g"), (("b", 1),), 0)
        self.assert_too_much(15, twin, "book_gang", gang_of("i", many=4), (("b", 4),), 6)

    def test_an_estate_stays_where_its_twin_goes_on(self):
        before = all_of(self.estate)
        twin = self.estate.twin_estate()
        twin.cut_gang("g", 12)
        twin.stretch_gang("h", 35)
        book(twin, "i", 0, 5, (("a", 1),))
        twin.set_state("a", "shut")
        self.assertEqual(all_of(self.estate), before)
        twin.forget_past(12)
        twin.drop_gang("h")
        twin.drop_house("b")
        twin.add_house("e", "x", (1,), None)
        self.assertEqual(all_of(self.estate), before)

    def test_a_twin_stays_where_its_estate_goes_on(self):
        twin = self.estate.twin_estate()
        before = all_of(twin)
        self.estate.cut_gang("g", 12)
        self.estate.stretch_gang("h", 35)
        book(self.estate, "i", 0, 5, (("a", 1),))
        self.estate.set_state("a", "shut")
        self.assertEqual(all_of(twin), before)
        self.estate.forget_past(12)
        self.estate.drop_gang("h")
        self.estate.drop_house("b")
        self.estate.add_house("e", "x", (1,), None)
        self.assertEqual(all_of(twin), before)

    def test_two_estates_share_nothing(self):
        one, other = Estate(), Estate()
        one.add_house("a", "x", (1,), None)
        book(one, "g", 0, 5, (("a", 1),))
        self.assertEqual(other.house_rows(), [])
        self.assertEqual(other.booked_rows(), [])


class PlainEstate:
    """What [10] to [12] say, told anew from lists of rows: slow, but plain to see."""

    def __init__(self):
        self.houses = {}     # name: [yard, room, kind, state]
        self.rows = []       # (gang's name, house, n, begin, end, amount)

    def add_house(self, name, yard, room, kind):
        if name in self.houses:
            return "Taken"
        self.houses[name] = [yard, room, kind, "open"]
        return None

    def set_state(self, name, state):
        if name not in self.houses:
            return "NoHouse"
        self.houses[name][3] = state
        return None

    def drop_house(self, name):
        if name not in self.houses:
            return "NoHouse"
        del self.houses[name]
        keys = sorted(row[0] for row in self.rows if row[1] == name)
        self.rows = [row for row in self.rows if row[1] != name]
        return keys

    def booked(self, name):
        return any(row[0] == name for row in self.rows)

    def keep(self, rows):
        """Takes rows over, or tells the first house by names that has too much, and when."""
        for house, time in itertools.product(sorted(self.houses), range(45)):
            room = self.houses[house][1]
            if any(load > most for load, most in zip(self.load(rows, house, time), room)):
                return ("TooMuch", time)
        self.rows = rows
        return None

    def load(self, rows, house, time):
        there = [row[5] for row in rows if row[1] == house and row[3] <= time < row[4]]
        return tuple(sum(amount[ware] for amount in there) for ware in range(len(self.houses[house][1])))

    def book_gang(self, gang, placing, begin):
        if self.booked(gang[0]):
            return "Taken"
        if any(house not in self.houses for house, n in placing):
            return "NoHouse"
        return self.keep(self.rows + [
            (gang[0], house, n, begin, begin + gang[6], tuple(n * want for want in gang[4])) for house, n in placing])

    def changed(self, name, end_of):
        return [(*row[:4], end_of(row[4]), row[5]) if row[0] == name else row for row in self.rows]

    def cut_gang(self, name, time):
        if not self.booked(name):
            return "NoGang"
        self.rows = [row for row in self.changed(name, lambda end: min(end, time)) if row[3] < row[4]]
        return None

    def stretch_gang(self, name, to):
        return self.keep(self.changed(name, lambda end: max(end, to))) if self.booked(name) else "NoGang"

    def drop_gang(self, name):
        if not self.booked(name):
            return "NoGang"
        self.rows = [row for row in self.rows if row[0] != name]
        return None

    def forget_past(self, time):
        before = {row[0] for row in self.rows}
        self.rows = [row for row in self.rows if row[4] > time]
        return sorted(name for name in before if not self.booked(name))

    def booked_rows(self):
        told = []
        for name in sorted({row[0] for row in self.rows}):
            rows = sorted(row for row in self.rows if row[0] == name)
            told.append((name, rows[0][3], rows[0][4], tuple((row[1], row[2]) for row in rows)))
        return told

    def left(self, house, begin, end):
        loads = [self.load(self.rows, house, time) for time in range(begin, end)]
        return tuple(min(most - load[ware] for load in loads) for ware, most in enumerate(self.houses[house][1]))

    def site_for(self, begin, end):
        return [(name, self.houses[name][0], self.left(name, begin, end))
                for name in sorted(self.houses) if self.houses[name][3] == "open"]

    def edge_after(self, time, ats=(3, 4)):
        return min((row[at] for row in self.rows for at in ats if row[at] > time), default=None)


class AgainstPlainEstate(unittest.TestCase):
    def some_call(self, chance):
        """A method's name and what is handed in."""
        house, name = chance.choice("abcd"), chance.choice("pqrstu")
        time, end = chance.randrange(25), chance.randrange(45)
        houses = sorted(chance.sample("abcd", chance.randrange(1, 4)))
        placing = tuple((house, chance.randrange(1, 4)) for house in houses)
        want = chance.choice([(1, 0), (0, 1), (1, 1), (2, 1)])
        gang = gang_of(name, many=sum(n for house, n in placing), want=want, length=chance.randrange(1, 20))
        room = (chance.randrange(3, 9), chance.randrange(3, 9))
        return chance.choice([("book_gang", gang, placing, time)] * 5 + [
            ("add_house", house, chance.choice("xy"), room, chance.choice([None, "k"])),
            ("add_house", house, chance.choice("xy"), room, None),
            ("set_state", house, chance.choice(["open", "shut"])), ("drop_house", house), ("cut_gang", name, time),
            ("stretch_gang", name, end), ("stretch_gang", name, end), ("drop_gang", name), ("forget_past", time // 2)])

    def do(self, estate, call):
        try:
            return getattr(estate, call[0])(*call[1:])
        except TooMuch as error:
            return ("TooMuch", error.time)
        except HallError as error:
            return type(error).__name__

    def assert_alike(self, estate, plain):
        self.assertEqual(estate.booked_rows(), plain.booked_rows())
        self.assertEqual(estate.house_rows(), [(name, *plain.houses[name]) for name in sorted(plain.houses)])
        for name in plain.houses:
            self.assertEqual(estate.entries_in(name),
                             sorted((row[0], row[3], row[4], row[5]) for row in plain.rows if row[1] == name))
        for time in range(0, 45, 4):
            self.assertEqual(estate.edge_after(time), plain.edge_after(time))
            self.assertEqual(estate.end_after(time), plain.edge_after(time, (4,)))
            self.assertEqual(estate.house_loads(time),
                             [(name, plain.load(plain.rows, name, time)) for name in sorted(plain.houses)])
            self.assertEqual(estate.site_for(time, time + 6), plain.site_for(time, time + 6))

    def test_many_calls(self):
        chance = random.Random(6)
        seen = set()
        for turn in range(40):
            estate, plain = Estate(), PlainEstate()
            for at in range(50):
                call = self.some_call(chance)
                told = getattr(plain, call[0])(*call[1:])
                done = self.do(estate, call)
                if told is not None:
                    self.assertEqual(done, told, call)
                    seen.add(told[0] if isinstance(told, tuple) else str(told))
                else:
                    self.assertNotIsInstance(done, (tuple, str), call)
                self.assertEqual(estate.booked_rows(), plain.booked_rows(), call)
            self.assert_alike(estate, plain)
        self.assertTrue({"Taken", "TooMuch", "NoHouse", "NoGang"} <= seen)


class BesideBooks(unittest.TestCase):
    def test_a_house_is_as_a_book_of_its_own(self):
        estate = estate_of(("a", "x", (5, 10)))
        plain = Book((5, 10))
        for name, begin, end, n in (("g", 0, 10, 2), ("h", 5, 15, 3), ("i", 10, 30, 1)):
            book(estate, name, begin, end, (("a", n),), want=(1, 2))
            plain.put_entry(name, begin, end, (n, 2 * n))
        self.assertEqual(estate.entries_in("a"), plain.entry_rows())
        for time in range(32):
            self.assertEqual(estate.house_loads(time), [("a", plain.load_at(time))])
            self.assertEqual(estate.site_for(time, 35), [("a", "x", plain.left_over(time, 35))])


if __name__ == "__main__":
    unittest.main()
