"""A house's book [5], and what [2] says of objects."""

import random
import unittest

from clusterhall.books import Book
from clusterhall.errors import NoKey, Taken, TooMuch

GREAT = 10 ** 12
LATEST = 2 * 10 ** 9


def book_of(room, *entries):
    """A book with entries, put in the order handed in."""
    book = Book(room)
    for entry in entries:
        book.put_entry(*entry)
    return book


class BookCase(unittest.TestCase):
    def assert_too_much(self, time, action, *handed):
        """That the action is refused with TooMuch, and the first time is the one told."""
        with self.assertRaises(TooMuch) as caught:
            action(*handed)
        self.assertEqual(caught.exception.time, time)


class PutEntry(BookCase):
    def test_an_empty_book(self):
        book = Book((3, 4))
        self.assertEqual(book.entry_rows(), [])
        self.assertEqual(book.whole_room(), (3, 4))

    def test_entries_are_told_by_rising_keys(self):
        book = book_of((9, 9), ("c", 0, 5, (1, 1)), ("a", 3, 9, (2, 0)), ("ab", 1, 2, (0, 3)), ("b", 7, 8, (0, 0)))
        self.assertEqual(book.entry_rows(), [("a", 3, 9, (2, 0)), ("ab", 1, 2, (0, 3)), ("b", 7, 8, (0, 0)),
                                             ("c", 0, 5, (1, 1))])

    def test_just_what_is_left_and_one_more_in_one_ware(self):
        book = book_of((5, 6), ("a", 0, 10, (2, 3)))
        self.assert_too_much(0, book.put_entry, "b", 0, 10, (4, 3))
        self.assert_too_much(0, book.put_entry, "b", 0, 10, (3, 4))
        book.put_entry("b", 0, 10, (3, 3))
        self.assertEqual(book.load_at(0), (5, 6))

    def test_the_room_itself(self):
        book = Book((5, 0))
        self.assert_too_much(7, book.put_entry, "a", 7, 9, (6, 0))
        self.assert_too_much(7, book.put_entry, "a", 7, 9, (5, 1))
        book.put_entry("a", 7, 9, (5, 0))
        self.assertEqual(book.entry_rows(), [("a", 7, 9, (5, 0))])

    def test_entries_that_touch_at_an_edge(self):
        book = book_of((5,), ("a", 10, 20, (5,)))
        book.put_entry("b", 20, 30, (5,))
        book.put_entry("c", 0, 10, (5,))
        self.assertEqual([row[0] for row in book.entry_rows()], ["a", "b", "c"])

    def test_entries_that_overlap_by_one_time(self):
        book = book_of((5,), ("a", 10, 20, (5,)))
        self.assert_too_much(19, book.put_entry, "b", 19, 30, (1,))
        self.assert_too_much(10, book.put_entry, "b", 0, 11, (1,))
        book.put_entry("b", 0, 11, (0,))

    def test_entries_within_one_another(self):
        book = book_of((5,), ("a", 10, 20, (3,)))
        self.assert_too_much(10, book.put_entry, "b", 0, 30, (3,))
        self.assert_too_much(12, book.put_entry, "b", 12, 15, (3,))
        book.put_entry("b", 0, 30, (2,))
        self.assert_too_much(10, book.put_entry, "c", 0, 30, (1,))
        book.put_entry("d", 0, 10, (3,))
        book.put_entry("e", 20, 30, (3,))

    def test_entries_of_the_same_stretch(self):
        book = book_of((5,), ("a", 10, 20, (2,)))
        self.assert_too_much(10, book.put_entry, "b", 10, 20, (4,))
        book.put_entry("b", 10, 20, (3,))
        self.assert_too_much(10, book.put_entry, "c", 10, 20, (1,))
        book.put_entry("c", 10, 20, (0,))

    def test_the_first_time_is_that_of_any_ware(self):
        book = book_of((5, 5), ("a", 10, 20, (0, 5)), ("b", 15, 25, (5, 0)))
        self.assert_too_much(10, book.put_entry, "c", 0, 30, (1, 1))
        self.assert_too_much(15, book.put_entry, "c", 0, 30, (1, 0))
        self.assert_too_much(16, book.put_entry, "c", 16, 30, (1, 0))

    def test_the_first_time_is_where_others_come_together(self):
        book = book_of((6,), ("a", 0, 10, (2,)), ("b", 5, 15, (2,)), ("c", 8, 9, (1,)), ("d", 12, 20, (3,)))
        self.assert_too_much(8, book.put_entry, "e", 0, 20, (2,))
        self.assert_too_much(12, book.put_entry, "e", 9, 20, (2,))
        self.assert_too_much(5, book.put_entry, "e", 0, 20, (3,))
        self.assert_too_much(0, book.put_entry, "e", 0, 20, (5,))

    def test_the_first_time_where_several_begin_at_once(self):
        book = book_of((6,), ("a", 5, 10, (2,)), ("b", 5, 8, (2,)), ("c", 5, 6, (2,)))
        self.assert_too_much(5, book.put_entry, "d", 0, 9, (1,))
        self.assert_too_much(5, book.put_entry, "d", 5, 9, (1,))
        book.put_entry("d", 6, 9, (2,))

    def test_one_ends_as_another_begins_within(self):
        book = book_of((5,), ("a", 0, 10, (4,)), ("b", 10, 20, (4,)))
        book.put_entry("c", 0, 20, (1,))
        self.assertEqual(book.load_at(10), (5,))

    def test_taken_goes_ahead_of_too_much(self):
        book = book_of((5,), ("a", 0, 10, (5,)))
        with self.assertRaises(Taken):
            book.put_entry("a", 0, 10, (5,))
        with self.assertRaises(Taken):
            book.put_entry("a", 20, 30, (6,))
        with self.assertRaises(Taken):
            book.put_entry("a", 20, 30, (1,))

    def test_a_refusal_changes_nothing(self):
        book = book_of((5,), ("a", 0, 10, (5,)))
        for handed in [("a", 20, 30, (1,)), ("b", 9, 30, (1,))]:
            with self.assertRaises((Taken, TooMuch)):
                book.put_entry(*handed)
            self.assertEqual(book.entry_rows(), [("a", 0, 10, (5,))])
            self.assertEqual(book.load_at(25), (0,))
        book.put_entry("b", 10, 30, (1,))

    def test_a_key_that_is_gone_may_come_again(self):
        book = book_of((5,), ("a", 0, 10, (5,)))
        book.drop_entry("a")
        book.put_entry("a", 5, 6, (4,))
        self.assertEqual(book.entry_rows(), [("a", 5, 6, (4,))])

    def test_great_numbers_and_late_times(self):
        book = book_of((GREAT,) * 8, ("a", 10 ** 9, LATEST, (GREAT - 1,) * 8))
        self.assert_too_much(LATEST - 1, book.put_entry, "b", LATEST - 1, LATEST, (2,) * 8)
        book.put_entry("b", LATEST - 1, LATEST, (1,) * 8)
        self.assertEqual(book.load_at(LATEST - 1), (GREAT,) * 8)

    def test_a_hundred_entries(self):
        names = [one + other for one in "abcdefghij" for other in "klmnopqrst"]
        book = book_of((100,), *[(name, at, 200 - at, (1,)) for at, name in enumerate(names)])
        self.assertEqual(book.load_at(99), (100,))
        self.assert_too_much(99, book.put_entry, "z", 0, 200, (1,))
        self.assert_too_much(50, book.put_entry, "z", 0, 200, (50,))


class CutEntry(BookCase):
    def cut(self, time):
        """What stays of an entry from 10 to 20 that is cut at a time."""
        book = book_of((5,), ("a", 10, 20, (2,)), ("b", 0, 30, (1,)))
        book.cut_entry("a", time)
        self.assertEqual(book.entry_rows()[-1], ("b", 0, 30, (1,)))
        return book.entry_rows()[:-1]

    def test_ahead_of_and_at_its_begin(self):
        self.assertEqual(self.cut(0), [])
        self.assertEqual(self.cut(9), [])
        self.assertEqual(self.cut(10), [])

    def test_within(self):
        self.assertEqual(self.cut(11), [("a", 10, 11, (2,))])
        self.assertEqual(self.cut(19), [("a", 10, 19, (2,))])

    def test_at_and_behind_its_end(self):
        self.assertEqual(self.cut(20), [("a", 10, 20, (2,))])
        self.assertEqual(self.cut(21), [("a", 10, 20, (2,))])
        self.assertEqual(self.cut(LATEST), [("a", 10, 20, (2,))])

    def test_there_is_room_behind_the_cut(self):
        book = book_of((5,), ("a", 10, 20, (5,)))
        book.cut_entry("a", 15)
        book.put_entry("b", 15, 20, (5,))
        self.assert_too_much(14, book.put_entry, "c", 14, 15, (1,))

    def test_no_key(self):
        book = book_of((5,), ("a", 10, 20, (2,)))
        for key in ["b", "aa"]:
            with self.assertRaises(NoKey):
                book.cut_entry(key, 15)
        self.assertEqual(book.entry_rows(), [("a", 10, 20, (2,))])
        book.cut_entry("a", 10)
        with self.assertRaises(NoKey):
            book.cut_entry("a", 10)


class StretchEntry(BookCase):
    def test_a_later_end(self):
        book = book_of((5,), ("a", 10, 20, (2,)))
        book.stretch_entry("a", 21)
        self.assertEqual(book.entry_rows(), [("a", 10, 21, (2,))])
        book.stretch_entry("a", LATEST)
        self.assertEqual(book.entry_rows(), [("a", 10, LATEST, (2,))])

    def test_no_later_end(self):
        book = book_of((5,), ("a", 10, 20, (5,)), ("b", 20, 30, (5,)))
        for end in [0, 10, 15, 19, 20]:
            book.stretch_entry("a", end)
            self.assertEqual(book.entry_rows()[0], ("a", 10, 20, (5,)))

    def test_the_first_time_of_too_much(self):
        book = book_of((5, 5), ("a", 10, 20, (3, 3)), ("b", 0, 30, (1, 1)), ("c", 25, 40, (2, 0)),
                       ("d", 32, 40, (0, 3)), ("e", 50, 60, (3, 3)))
        self.assert_too_much(25, book.stretch_entry, "a", 26)
        self.assert_too_much(25, book.stretch_entry, "a", 100)
        book.stretch_entry("a", 25)
        self.assert_too_much(25, book.stretch_entry, "a", 100)
        book.drop_entry("c")
        self.assert_too_much(32, book.stretch_entry, "a", 100)
        book.drop_entry("d")
        self.assert_too_much(50, book.stretch_entry, "a", 100)
        book.stretch_entry("a", 50)
        self.assertEqual(book.entry_rows()[0], ("a", 10, 50, (3, 3)))

    def test_too_much_at_its_old_end(self):
        book = book_of((5,), ("a", 10, 20, (5,)), ("b", 20, 30, (1,)))
        self.assert_too_much(20, book.stretch_entry, "a", 21)
        self.assert_too_much(20, book.stretch_entry, "a", 40)

    def test_it_does_not_count_against_itself(self):
        book = book_of((5,), ("a", 10, 20, (5,)))
        book.stretch_entry("a", 30)
        self.assertEqual(book.load_at(25), (5,))

    def test_just_what_is_left(self):
        book = book_of((5,), ("a", 10, 20, (3,)), ("b", 20, 30, (2,)), ("c", 30, 40, (2,)))
        book.stretch_entry("a", 40)
        self.assertEqual(book.entry_rows()[0], ("a", 10, 40, (3,)))

    def test_a_refusal_changes_nothing(self):
        book = book_of((5,), ("a", 10, 20, (5,)), ("b", 25, 30, (1,)))
        rows = book.entry_rows()
        self.assert_too_much(25, book.stretch_entry, "a", 26)
        with self.assertRaises(NoKey):
            book.stretch_entry("c", 26)
        self.assertEqual(book.entry_rows(), rows)
        self.assertEqual(book.load_at(20), (0,))


class DropEntry(BookCase):
    def test_it_is_gone(self):
        book = book_of((5,), ("a", 10, 20, (2,)), ("b", 10, 20, (3,)))
        book.drop_entry("a")
        self.assertEqual(book.entry_rows(), [("b", 10, 20, (3,))])
        self.assertEqual(book.load_at(10), (3,))

    def test_no_key(self):
        book = book_of((5,), ("a", 10, 20, (2,)))
        with self.assertRaises(NoKey):
            book.drop_entry("b")
        self.assertEqual(book.entry_rows(), [("a", 10, 20, (2,))])
        book.drop_entry("a")
        with self.assertRaises(NoKey):
            book.drop_entry("a")


class DropPast(BookCase):
    def test_at_and_beside_an_end(self):
        book = book_of((9,), ("c", 0, 10, (1,)), ("a", 0, 11, (1,)), ("b", 5, 10, (1,)), ("d", 20, 30, (1,)))
        self.assertEqual(book.drop_past(9), [])
        self.assertEqual(len(book.entry_rows()), 4)
        self.assertEqual(book.drop_past(10), ["b", "c"])
        self.assertEqual(book.entry_rows(), [("a", 0, 11, (1,)), ("d", 20, 30, (1,))])
        self.assertEqual(book.drop_past(10), [])
        self.assertEqual(book.drop_past(LATEST), ["a", "d"])
        self.assertEqual(book.entry_rows(), [])
        self.assertEqual(book.drop_past(LATEST), [])

    def test_keys_rise_in_whatever_order_they_end(self):
        book = book_of((9,), ("z", 0, 1, (1,)), ("m", 0, 3, (1,)), ("b", 0, 2, (1,)), ("ba", 0, 1, (1,)))
        self.assertEqual(book.drop_past(3), ["b", "ba", "m", "z"])


class Asks(BookCase):
    def setUp(self):
        self.book = book_of((9, 9), ("a", 10, 20, (2, 1)), ("b", 15, 30, (3, 0)), ("c", 40, 50, (0, 5)))

    def test_load_at(self):
        loads = {0: (0, 0), 9: (0, 0), 10: (2, 1), 14: (2, 1), 15: (5, 1), 19: (5, 1), 20: (3, 0), 29: (3, 0),
                 30: (0, 0), 39: (0, 0), 40: (0, 5), 49: (0, 5), 50: (0, 0), LATEST: (0, 0)}
        for time, load in loads.items():
            with self.subTest(time=time):
                self.assertEqual(self.book.load_at(time), load)

    def test_left_over(self):
        wanted = {(0, 10): (9, 9), (0, 11): (7, 8), (11, 13): (7, 8), (10, 15): (7, 8), (10, 16): (4, 8),
                  (16, 18): (4, 8), (19, 20): (4, 8), (20, 25): (6, 9), (19, 25): (4, 8), (30, 40): (9, 9),
                  (29, 40): (6, 9), (20, 41): (6, 4), (0, 100): (4, 4), (49, 60): (9, 4), (50, 60): (9, 9),
                  (31, 32): (9, 9)}
        for (begin, end), left in wanted.items():
            with self.subTest(begin=begin, end=end):
                self.assertEqual(self.book.left_over(begin, end), left)

    def test_left_over_is_told_ware_by_ware(self):
        book = book_of((9, 9), ("a", 0, 10, (5, 1)), ("b", 10, 20, (1, 6)))
        self.assertEqual(book.left_over(0, 20), (4, 3))

    def test_left_over_of_an_empty_and_of_a_full_book(self):
        self.assertEqual(Book((3, 0)).left_over(0, LATEST), (3, 0))
        self.assertEqual(book_of((3, 0), ("a", 5, 6, (3, 0))).left_over(0, LATEST), (0, 0))

    def test_next_edge(self):
        wanted = {0: 10, 9: 10, 10: 15, 12: 15, 15: 20, 19: 20, 20: 30, 30: 40, 35: 40, 40: 50, 49: 50, 50: None,
                  LATEST: None}
        for time, edge in wanted.items():
            with self.subTest(time=time):
                self.assertEqual(self.book.next_edge(time), edge)

    def test_next_end(self):
        wanted = {0: 20, 10: 20, 15: 20, 19: 20, 20: 30, 29: 30, 30: 50, 40: 50, 49: 50, 50: None, LATEST: None}
        for time, edge in wanted.items():
            with self.subTest(time=time):
                self.assertEqual(self.book.next_end(time), edge)

    def test_edges_of_an_empty_book(self):
        self.assertIsNone(Book((1,)).next_edge(0))
        self.assertIsNone(Book((1,)).next_end(0))

    def test_an_edge_at_nought_is_not_above_nought(self):
        book = book_of((1,), ("a", 0, 5, (1,)))
        self.assertEqual(book.next_edge(0), 5)

    def test_asks_change_nothing_and_are_told_the_same_again(self):
        asks = [lambda: self.book.load_at(15), lambda: self.book.left_over(0, 100), self.book.entry_rows,
                lambda: self.book.next_edge(15), lambda: self.book.next_end(15), self.book.whole_room]
        first = [ask() for ask in asks]
        self.assertEqual([ask() for ask in asks], first)

    def test_kinds(self):
        self.assertIs(type(self.book.load_at(15)), tuple)
        self.assertIs(type(self.book.load_at(0)), tuple)
        self.assertIs(type(self.book.left_over(0, 100)), tuple)
        self.assertIs(type(self.book.left_over(0, 1)), tuple)
        self.assertIs(type(self.book.whole_room()), tuple)
        self.assertIs(type(self.book.entry_rows()), list)
        self.assertEqual([type(row) for row in self.book.entry_rows()], [tuple] * 3)
        self.assertIs(type(self.book.drop_past(0)), list)
        self.assertIs(type(self.book.twin_book()), Book)


class ToldAndTwins(BookCase):
    def test_told_rows_are_the_askers_own(self):
        book = book_of((9,), ("a", 10, 20, (2,)), ("b", 15, 30, (3,)))
        rows = book.entry_rows()
        self.assertIsNot(rows, book.entry_rows())
        rows.pop()
        rows.append(("z", 0, 1, (9,)))
        self.assertEqual(book.entry_rows(), [("a", 10, 20, (2,)), ("b", 15, 30, (3,))])
        self.assertEqual(book.load_at(0), (0,))

    def test_told_rows_stay_as_they_were(self):
        book = book_of((9,), ("a", 10, 20, (2,)), ("b", 15, 30, (3,)))
        rows = book.entry_rows()
        book.cut_entry("a", 12)
        book.drop_entry("b")
        book.put_entry("c", 0, 1, (1,))
        self.assertEqual(rows, [("a", 10, 20, (2,)), ("b", 15, 30, (3,))])

    def test_told_keys_are_the_askers_own(self):
        book = book_of((9,), ("a", 10, 20, (2,)), ("b", 15, 20, (3,)), ("c", 15, 30, (3,)))
        keys = book.drop_past(20)
        keys.append("c")
        self.assertEqual(book.entry_rows(), [("c", 15, 30, (3,))])
        later = book.drop_past(30)
        self.assertEqual(keys, ["a", "b", "c"])
        self.assertEqual(later, ["c"])
        self.assertIsNot(book.drop_past(30), book.drop_past(30))

    def test_a_twin_has_the_same(self):
        book = book_of((9, 8), ("b", 15, 30, (3, 0)), ("a", 10, 20, (2, 1)))
        twin = book.twin_book()
        self.assertIsNot(twin, book)
        self.assertEqual(twin.whole_room(), (9, 8))
        self.assertEqual(twin.entry_rows(), book.entry_rows())
        self.assertEqual(twin.left_over(0, 99), (4, 7))

    def test_a_twin_and_its_book_go_on_apart(self):
        book = book_of((9,), ("a", 10, 20, (2,)), ("b", 15, 30, (3,)))
        twin = book.twin_book()
        twin.drop_entry("a")
        twin.put_entry("c", 0, 5, (1,))
        twin.cut_entry("b", 20)
        self.assertEqual(book.entry_rows(), [("a", 10, 20, (2,)), ("b", 15, 30, (3,))])
        book.stretch_entry("b", 40)
        book.put_entry("d", 0, 5, (9,))
        self.assertEqual(book.drop_past(20), ["a", "d"])
        self.assertEqual(twin.entry_rows(), [("b", 15, 20, (3,)), ("c", 0, 5, (1,))])

    def test_a_twin_keeps_to_its_room(self):
        twin = book_of((5,), ("a", 10, 20, (3,))).twin_book()
        self.assert_too_much(10, twin.put_entry, "b", 0, 30, (3,))
        with self.assertRaises(Taken):
            twin.put_entry("a", 50, 60, (1,))

    def test_two_books_share_nothing(self):
        one, other = Book((5,)), Book((5,))
        one.put_entry("a", 0, 5, (5,))
        self.assertEqual(other.entry_rows(), [])

    def test_told_rows_may_be_handed_in_again(self):
        book = book_of((9,), ("a", 10, 20, (2,)), ("b", 15, 30, (3,)))
        self.assertEqual(book_of(book.whole_room(), *book.entry_rows()).entry_rows(), book.entry_rows())


class PlainBook:
    """What [5] says, time by time, for times below 12: slow, but plain to see."""

    TIMES = range(12)

    def __init__(self, room):
        self.room = room
        self.rows = {}

    def load(self, rows, time):
        there = [row[3] for row in rows.values() if row[1] <= time < row[2]]
        return tuple(sum(amount[ware] for amount in there) for ware in range(len(self.room)))

    def take(self, rows):
        for time in self.TIMES:
            if any(n > most for n, most in zip(self.load(rows, time), self.room)):
                return ("TooMuch", time)
        self.rows = rows
        return None

    def put_entry(self, key, begin, end, amount):
        if key in self.rows:
            return ("Taken",)
        return self.take({**self.rows, key: (key, begin, end, amount)})

    def cut_entry(self, key, time):
        if key not in self.rows:
            return ("NoKey",)
        key, begin, end, amount = self.rows.pop(key)
        if begin < time:
            self.rows[key] = (key, begin, min(end, time), amount)
        return None

    def stretch_entry(self, key, end):
        if key not in self.rows:
            return ("NoKey",)
        key, begin, old, amount = self.rows[key]
        return self.take({**self.rows, key: (key, begin, max(end, old), amount)})

    def drop_entry(self, key):
        return None if self.rows.pop(key, None) else ("NoKey",)

    def drop_past(self, time):
        past = sorted(key for key in self.rows if self.rows[key][2] <= time)
        self.rows = {key: self.rows[key] for key in self.rows if key not in past}
        return past

    def left_over(self, begin, end):
        loads = [self.load(self.rows, time) for time in range(begin, end)]
        return tuple(min(most - load[ware] for load in loads) for ware, most in enumerate(self.room))


def refusal_of(error):
    """An error as PlainBook tells it."""
    if isinstance(error, TooMuch):
        return ("TooMuch", error.time)
    return (type(error).__name__,)


class AgainstPlainBook(unittest.TestCase):
    def some_call(self, chance):
        """A method's name and what is handed in."""
        key = chance.choice("abcdef")
        begin = chance.randrange(0, 11)
        end = chance.randrange(begin + 1, 13)
        amount = (chance.randrange(0, 4), chance.randrange(0, 4))
        return chance.choice([("put_entry", key, begin, end, amount)] * 4 + [
            ("cut_entry", key, begin), ("stretch_entry", key, end), ("drop_entry", key), ("drop_past", begin // 3)])

    def do(self, book, call):
        try:
            return getattr(book, call[0])(*call[1:])
        except (Taken, TooMuch, NoKey) as error:
            return refusal_of(error)

    def assert_alike(self, book, plain):
        self.assertEqual(book.entry_rows(), [plain.rows[key] for key in sorted(plain.rows)])
        for time in PlainBook.TIMES:
            self.assertEqual(book.load_at(time), plain.load(plain.rows, time))
            for end in range(time + 1, 13):
                self.assertEqual(book.left_over(time, end), plain.left_over(time, end))

    def test_many_calls(self):
        chance = random.Random(5)
        seen = set()
        for turn in range(40):
            room = (chance.randrange(2, 7), chance.randrange(2, 7))
            book, plain = Book(room), PlainBook(room)
            for at in range(30):
                call = self.some_call(chance)
                told = getattr(plain, call[0])(*call[1:])
                done = self.do(book, call)
                if told is not None:
                    self.assertEqual(done, told, call)
                    seen.add(told[0] if told else "")
                else:
                    self.assertNotIsInstance(done, tuple, call)
                self.assertEqual(book.entry_rows(), [plain.rows[key] for key in sorted(plain.rows)], call)
            self.assert_alike(book, plain)
        self.assertTrue({"Taken", "TooMuch", "NoKey"} <= seen)


if __name__ == "__main__":
    unittest.main()
