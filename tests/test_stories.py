"""Stories [24], [25]."""

import random
import unittest

from makers import gang_of
from test_whole import all_events, answer

from clusterhall.errors import BadRow
from clusterhall.hall import Hall
from clusterhall.reasons import fetch_for, reason_of, spare_now
from clusterhall.stories import run

HEAD = ("hall 1 5", "guild g 0", "guild h 3", "house o x 4")


def answers(*rows):
    """The answers to the rows, behind a hall of grace 5 with guilds g and h, and a house o of room 4."""
    return run("\n".join(HEAD + rows))[len(HEAD) - 1:]


class StoryCase(unittest.TestCase):
    def assert_bad(self, row, text):
        with self.assertRaises(BadRow) as caught:
            run(text)
        self.assertIs(type(caught.exception), BadRow)
        self.assertEqual(caught.exception.row, row, text[:300])
        self.assertIs(type(caught.exception.row), int)

    def assert_bad_row(self, row, wares=1):
        """That a row isn't so written, as the second one and as a later one."""
        head = f"hall {wares} 5"
        self.assert_bad(1, f"{head}\n{row}")
        self.assert_bad(3, f"{head}\nnow\n\n{row}\nnow\nnever so written")

    def assert_good_row(self, row, wares=1):
        self.assertEqual(len(run(f"hall {wares} 5\n{row}")), 1, row)


class Events(unittest.TestCase):
    def test_nothing_happens(self):
        self.assertEqual(run("hall 1 5\nguild g 3\nhouse o x 4\nkind k x 3 2\nfetch k b\nshut b\nopen b\nlet b\ntime 7"),
                         ["-"] * 8)
        self.assertEqual(answers("fall o"), ["-"])

    def test_begun_and_ended(self):
        self.assertEqual(answers("gang a g 0 3 1 any 10", "time 10"), ["begun 0 a o:3", "ended 10 a"])
        self.assertEqual(answers("house p y 2", "gang a g 0 6 1 any 10"), ["-", "begun 0 a o:4,p:2"])

    def test_planned(self):
        self.assertEqual(answers("time 2", "plan a g 0 3 1 near 10 7", "time 7", "time 20"),
                         ["-", "planned 2 a 7 o:3", "begun 7 a o:3", "ended 17 a"])
        self.assertEqual(answers("house p y 2", "plan a g 0 2 1 wide 10 7"), ["-", "planned 0 a 7 o:1,p:1"])

    def test_called_and_left(self):
        self.assertEqual(answers("gang a g 0 4 1 any 30", "time 1", "gang b g 2 3 1 any 4", "time 6", "time 10"), [
            "begun 0 a o:4", "-", "called 1 b 6 o:3 a:rank", "left 6 a; begun 6 b o:3", "ended 10 b; begun 10 a o:4"])
        self.assertEqual(answers("gang a g 0 2 1 any 30", "gang c g 9 2 1 any 30", "gang b h 0 3 1 any 4"), [
            "begun 0 a o:2", "begun 0 c o:2", "called 0 b 5 o:3 a:share,c:share"])

    def test_kept(self):
        self.assertEqual(answers("gang a g 0 4 1 any 30", "gang b g 2 3 1 any 4", "quit b"), [
            "begun 0 a o:4", "called 0 b 5 o:3 a:rank", "kept 0 a"])

    def test_broken_moved_and_barred(self):
        self.assertEqual(answers("house p y 2", "gang a g 0 1 1 any 30", "plan b g 0 2 1 any 5 40", "time 2",
                                 "plan c g 0 4 1 any 5 40", "fall o"), [
            "-", "begun 0 a o:1", "planned 0 b 40 o:2", "-", "planned 2 c 40 o:2,p:2",
            "broken 2 a o; moved 2 b p:2; barred 2 c o; begun 2 a p:1"])

    def test_each_refusal(self):
        self.assertEqual(answers("house o y 3"), ["refused Taken"])
        self.assertEqual(answers("kind k x 3 1", "kind k y 4 2"), ["-", "refused Taken"])
        self.assertEqual(answers("kind k x 3 1", "fetch l p", "fetch k o", "fetch k p", "fetch k q"),
                         ["-", "refused NoKind", "refused Taken", "-", "refused TooMany"])
        self.assertEqual(answers("shut p", "open p", "let p", "fall p"), ["refused NoHouse"] * 4)
        self.assertEqual(answers("gang a g 0 1 1 any 9", "let o"), ["begun 0 a o:1", "refused InUse"])
        self.assertEqual(answers("gang a i 0 1 1 any 9", "plan a i 0 1 1 any 9 5"), ["refused NoGuild"] * 2)
        self.assertEqual(answers("gang a g 0 9 1 any 9", "gang a g 0 1 1 any 9", "plan a g 0 1 1 any 9 5"),
                         ["-", "refused Taken", "refused Taken"])
        self.assertEqual(answers("plan a g 0 1 1 any 9 0", "plan a g 0 9 1 any 9 1"), ["refused Past", "refused NoPlan"])
        self.assertEqual(answers("quit a"), ["refused NoGang"])
        self.assertEqual(answers("time 3", "time 2", "now"), ["-", "refused Past", "3"])

    def test_a_refusal_changes_nothing(self):
        self.assertEqual(answers("gang a i 0 1 1 any 9", "gangs", "waiting"), ["refused NoGuild", "-", "-"])


class Asks(unittest.TestCase):
    def test_now(self):
        self.assertEqual(answers("now", "time 17", "now", "time 17", "now"), ["0", "-", "17", "-", "17"])

    def test_waiting(self):
        self.assertEqual(answers("waiting", "gang b g 0 9 1 any 9", "waiting", "gang a g 0 9 1 any 9", "gang c g 5 9 1 any 9",
                                 "waiting"), ["-", "-", "b", "-", "-", "c,b,a"])

    def test_gangs(self):
        self.assertEqual(answers("gangs"), ["-"])
        self.assertEqual(answers("gang a g 0 9 1 any 9", "gangs"), ["-", "a waits"])
        self.assertEqual(answers("house p y 2", "gang b g 0 6 1 any 30", "gang c g 1 4 1 near 9", "plan a g 0 1 1 any 8 90",
                                 "gang d g 0 9 1 any 9", "gangs", "time 20", "gangs")[-3:], [
            "a planned 90 98 o:1; b leaves 0 5 o:4,p:2; c called 5 14 o:4; d waits",
            "left 5 b; begun 5 c o:4; ended 14 c; begun 14 b o:4,p:2",
            "a planned 90 98 o:1; b goes 14 44 o:4,p:2; d waits"])

    def test_houses(self):
        self.assertEqual(run("hall 2 5\nhouses"), ["-"])
        self.assertEqual(answers("houses"), ["o x 4 - open"])
        self.assertEqual(run("hall 3 5\nhouse o x 4/0/7\nkind big y 1/2/3 4\nfetch big a\nshut a\nhouses")[-1],
                         "a y 1/2/3 big shut; o x 4/0/7 - open")

    def test_load(self):
        self.assertEqual(run("hall 2 5\nload 0"), ["-"])
        self.assertEqual(answers("load 0"), ["o 0"])
        self.assertEqual(run("hall 2 5\nguild g 0/0\nhouse o x 4/9\nhouse a x 1/1\ngang b g 0 3 1/1 any 9\n"
                             "plan c g 0 1 2/3 any 9 20\nload 0\nload 8\nload 9\nload 28\nload 1000000000")[-5:],
                         ["a 1/1; o 2/2", "a 1/1; o 2/2", "a 0/0; o 0/0", "a 0/0; o 2/3", "a 0/0; o 0/0"])

    def test_why(self):
        self.assertEqual(answers("why a", "gang a g 0 1 1 any 9", "why a"), ["refused NoGang", "begun 0 a o:1", "refused NoGang"])
        self.assertEqual(answers("house p y 3", "gang a g 0 9 1 any 9", "why a")[-1], "never o:4,p:3")
        self.assertEqual(answers("shut o", "gang a g 0 9 1 any 9", "why a")[-1], "never -")
        self.assertEqual(answers("gang a g 9 4 1 any 5", "gang b g 0 3 1 any 9", "why b")[-1], "soon o:3")
        self.assertEqual(answers("house p y 2", "gang a g 9 6 1 any 5", "gang b g 0 5 1 any 9", "why b")[-1], "soon o:4,p:1")
        self.assertEqual(answers("plan p g 0 4 1 any 9 20", "gang b g 0 3 1 any 30", "why b")[-1], "plans - p")
        self.assertEqual(answers("gang a g 0 2 1 any 15", "gang c g 0 2 1 any 15", "plan q g 0 2 1 any 9 20",
                                 "plan p g 0 2 1 any 9 20", "gang b g 1 4 1 any 30", "why b")[-1], "plans c,a p,q")
        self.assertEqual(answers("gang a g 9 3 1 any 50", "gang b g 0 2 1 any 9", "why b")[-1], "room - o:1")
        self.assertEqual(answers("house p y 1", "gang a g 9 3 1 any 50", "gang c g 0 2 1 any 50", "gang b g 1 4 1 any 9",
                                 "why b")[-1], "room c o:1,p:1")

    def test_takings(self):
        self.assertEqual(answers("takings"), ["-"])
        self.assertEqual(answers("gang a g 0 2 1 any 30", "gang c g 0 2 1 any 30", "gang b g 2 3 1 any 4", "takings",
                                 "time 5", "takings")[-3:],
                         ["c b rank 5; a b rank 5", "left 5 a; left 5 c; begun 5 b o:3", "-"])
        self.assertEqual(answers("gang a g 5 4 1 any 30", "gang b h 0 3 1 any 4", "takings")[-1], "a b share 5")

    def test_barred(self):
        self.assertEqual(answers("barred"), ["-"])
        self.assertEqual(answers("plan b g 0 4 1 any 5 40", "plan a g 0 1 1 any 5 50", "fall o", "barred")[-1],
                         "b 40 o; a 50 o")

    def test_fetches(self):
        self.assertEqual(answers("fetches a"), ["refused NoGang"])
        self.assertEqual(answers("gang a g 0 4 1 any 30", "fetches a")[-1], "refused NoGang")
        self.assertEqual(answers("gang a g 0 9 1 any 30", "fetches a")[-1], "-")
        self.assertEqual(answers("gang a g 0 9 1 any 30", "kind k y 2 9", "fetches a")[-1], "k 3")

    def test_spare(self):
        self.assertEqual(answers("spare"), ["-"])
        self.assertEqual(answers("kind k y 2 9", "fetch k b", "spare", "fetch k a", "spare"), ["-", "-", "b", "-", "a,b"])
        self.assertEqual(answers("kind k y 2 9", "fetch k b", "shut b", "gang c g 0 9 2 any 9", "spare")[-1], "-")


class Names(StoryCase):
    def test_words_with_which_rows_begin(self):
        words = ("hall", "guild", "house", "kind", "fetch", "shut", "open", "let", "fall", "gang", "plan", "quit", "time",
                 "now", "waiting", "gangs", "houses", "load", "why", "takings", "barred", "fetches", "spare", "any", "near")
        for word in words:
            told = run(f"hall 1 5\nguild {word} 0\nhouse {word} {word} 3\nkind {word} {word} 1 1\n"
                       f"gang {word} {word} 0 1 1 any 5\nwhy {word}\nquit {word}\nlet {word}")
            self.assertEqual(told, ["-", "-", "-", f"begun 0 {word} {word}:1", "refused NoGang", "-", "-"])

    def test_eight_letters_and_nine(self):
        for row in ("guild {} 1", "house {} x 1", "house o {} 1", "kind {} x 1 1", "kind k {} 1 1", "fetch {} a", "fetch k {}",
                    "shut {}", "open {}", "let {}", "fall {}", "gang {} g 0 1 1 any 1", "gang a {} 0 1 1 any 1",
                    "plan {} g 0 1 1 any 1 1", "plan a {} 0 1 1 any 1 1", "quit {}", "why {}", "fetches {}"):
            self.assert_good_row(row.format("abcdefgh"))
            self.assert_good_row(row.format("z"))
            for word in ("abcdefghi", "", "A", "a1", "1", "a-b", "a.", "-"):
                self.assert_bad_row(row.format(word))


class Numbers(StoryCase):
    BOUNDS = [
        ("guild g {}", 0, 10 ** 12), ("house o x {}", 0, 10 ** 12), ("kind k x {} 1", 0, 10 ** 12), ("kind k x 1 {}", 1, 40),
        ("gang a g {} 1 1 any 1", 0, 9), ("gang a g 0 {} 1 any 1", 1, 60), ("gang a g 0 1 {} any 1", 1, 10 ** 12),
        ("gang a g 0 1 1 any {}", 1, 10 ** 6), ("plan a g {} 1 1 any 1 1", 0, 9), ("plan a g 0 {} 1 any 1 1", 1, 60),
        ("plan a g 0 1 {} any 1 1", 1, 10 ** 12), ("plan a g 0 1 1 any {} 1", 1, 10 ** 6),
        ("plan a g 0 1 1 any 1 {}", 0, 10 ** 9), ("time {}", 0, 10 ** 9), ("load {}", 0, 10 ** 9)]

    def test_bounds(self):
        for row, least, most in self.BOUNDS:
            self.assert_good_row(row.format(least))
            self.assert_good_row(row.format(most))
            self.assert_bad_row(row.format(most + 1))
            self.assert_bad_row(row.format(most * 10))
            self.assert_bad_row(row.format(least - 1))
            if least > 0:
                self.assert_bad_row(row.format(0))

    def test_how_they_are_written(self):
        for row, least, most in self.BOUNDS:
            for word in ("", "01", "00", "+1", "-1", "1.", "1_0", "1,0", "a", "x", "1a", "0x1", "-", "-0", "1e1", "9" * 150):
                self.assert_bad_row(row.format(word))

    def test_bounds_of_the_hall_row(self):
        for row in ("hall 1 1", "hall 8 1000", "hall 1 1000"):
            self.assertEqual(run(row), [])
        for row in ("hall 0 5", "hall 9 5", "hall 1 0", "hall 1 1001", "hall 01 5", "hall 1 05", "hall 1", "hall", "hall 1 5 5",
                    "hall 1  5", " hall 1 5", "hall 1 5 ", "Hall 1 5", "hall a 5", "hall 1 b", "now", "guild g 1", "halls 1 5",
                    "hall 1/1 5", "hall -1 5"):
            self.assert_bad(0, row)
            self.assert_bad(2, "\n\n" + row + "\n\nnow")

    def test_how_far_above_now_is_not_looked_at(self):
        self.assertEqual(answers("time 1000000000", "now", "plan a g 0 1 1 any 1000000 1000000000", "gang b g 0 1 1 any 1000000"),
                         ["-", "1000000000", "refused Past", "begun 1000000000 b o:1"])

    def test_more_than_a_hall_should_have(self):
        # The numbers of houses, guilds, kinds and gangs aren't looked at.
        names = [one + other for one in "abcdefgh" for other in "abcdefgh"]
        text = "\n".join(["hall 1 5"] + [f"guild {name} 1" for name in names] + [f"house {name} x 1" for name in names[:50]]
                         + [f"kind {name} x 1 1" for name in names[:20]] + [f"gang {name} {name} 0 1 1 any 9" for name in names])
        self.assertEqual(len(run(text)), 64 + 50 + 20 + 64)


class Amounts(StoryCase):
    ROWS = ("guild g {}", "house o x {}", "kind k x {} 1", "gang a g 0 1 {} any 1", "plan a g 0 1 {} any 1 1")

    def test_as_many_numbers_as_wares(self):
        for wares in range(1, 9):
            for row in self.ROWS:
                self.assert_good_row(row.format("/".join(["1"] * wares)), wares)
                for many in range(1, 11):
                    if many != wares:
                        self.assert_bad_row(row.format("/".join(["1"] * many)), wares)

    def test_how_they_are_written(self):
        for row in self.ROWS:
            for word in ("1/", "/1", "/", "1//1", "1/01", "1/a", "1/-1", "1/ 1", "1,1", "1/1000000000001", "-/1", "1/1/", ""):
                self.assert_bad_row(row.format(word), 2)
            self.assert_good_row(row.format("1000000000000/0"), 2)
            self.assert_good_row(row.format("0/1"), 2)

    def test_noughts_alone(self):
        for row in self.ROWS[:3]:
            self.assert_good_row(row.format("0"))
            self.assert_good_row(row.format("0/0/0"), 3)
        for row in self.ROWS[3:]:
            self.assert_bad_row(row.format("0"))
            self.assert_bad_row(row.format("0/0/0"), 3)
            self.assert_good_row(row.format("0/0/1"), 3)


class Rows(StoryCase):
    def test_hows(self):
        for how in ("any", "apart", "near", "wide"):
            self.assert_good_row(f"gang a g 0 1 1 {how} 1")
            self.assert_good_row(f"plan a g 0 1 1 {how} 1 1")
        for how in ("", "a", "anywhere", "Any", "far", "any,near", "-", "0"):
            self.assert_bad_row(f"gang a g 0 1 1 {how} 1")
            self.assert_bad_row(f"plan a g 0 1 1 {how} 1 1")

    def test_too_few_and_too_many_words(self):
        rows = ("guild g 1", "house o x 1", "kind k x 1 1", "fetch k a", "shut o", "open o", "let o", "fall o",
                "gang a g 0 1 1 any 1", "plan a g 0 1 1 any 1 1", "quit a", "time 1", "now", "waiting", "gangs", "houses",
                "load 1", "why a", "takings", "barred", "fetches a", "spare")
        for row in rows:
            self.assert_good_row(row)
            self.assert_bad_row(row + " 1")
            self.assert_bad_row(row + " a")
            self.assert_bad_row(row + "x x")
            if " " in row:
                self.assert_bad_row(row.rpartition(" ")[0])
                self.assert_bad_row(row.split(" ")[0])

    def test_blanks(self):
        for row in ("now", "guild g 1", "quit a"):
            self.assert_bad_row(" " + row)
            self.assert_bad_row(row + " ")
            self.assert_bad_row(row + "  ")
        for row in ("guild  g 1", "guild g  1", "quit  a", " ", "  ", " " * 200):
            self.assert_bad_row(row)
        self.assert_bad(0, " ")
        self.assert_bad(1, "\n \nhall 1 5")

    def test_words_that_begin_no_row(self):
        for row in ("x", "Now", "NOW", "nows", "no", "step", "story", "why", "fetched k", "told a", "-", "#", "now;", "now.",
                    "begun 0 a o:1", "refused Taken"):
            self.assert_bad_row(row)

    def test_signs(self):
        for sign in ("%", "\t", "\r", "\x00", "\x1f", "\x7f", "\x80", "\xe9", "\u0663", "\u00a0", "\u2028", "\x0b", "\x0c", "\x85",
                     "\u00b2"):
            for row in ("now" + sign, sign + "now", sign, f"quit {sign}", f"time {sign}", f"time 1{sign}", f"guild g {sign}"):
                self.assert_bad_row(row)
        self.assert_bad(0, "hall 1 5\r\nnow")
        self.assert_bad(1, "hall 1 5\nnow\r")
        self.assert_bad(0, "hall 1\u00a05")
        self.assert_bad(0, "hall \u0661 5")

    def test_two_hundred_signs(self):
        # The longest rows that are so written are shorter: so a row of 200 signs is bad for another reason.
        self.assert_bad_row("now" + "x" * 197)
        self.assert_bad_row("now" + "x" * 198)
        row = "gang abcdefgh abcdefgh 9 60 " + "/".join(["1000000000000"] * 8) + " apart 1000000"
        self.assertEqual(len(row), 28 + 8 * 13 + 7 + 14)
        self.assert_good_row(row, 8)
        self.assert_bad(0, "hall 1 " + "0" * 193)
        self.assert_bad(0, "hall 1 " + "0" * 194)
        self.assert_bad(0, "x" * 100000)
        self.assert_bad(0, "hall 1 " + "9" * 5000)
        self.assert_bad_row("time " + "9" * 5000)

    def test_the_hall_row_is_the_first_and_no_other(self):
        self.assertEqual(run("hall 1 5"), [])
        self.assertEqual(run("\n\nhall 1 5\n\n"), [])
        self.assert_bad_row("hall 1 5")
        self.assert_bad(1, "hall 1 5\nhall 1 5")
        self.assert_bad(4, "\nhall 1 5\n\nnow\nhall 2 7\nnow")
        self.assert_bad(0, "now\nhall 1 5")
        self.assert_bad(1, "\nguild g 1\nhall 1 5")


class CountsOfRows(StoryCase):
    def test_empty_rows_are_passed_over(self):
        self.assertEqual(run("\n\nhall 1 5\n\n\nnow\n\ntime 4\n\n\nnow\n\n"), ["0", "-", "4"])
        self.assertEqual(run("hall 1 5\nnow\n"), ["0"])
        self.assert_bad(7, "\n\nhall 1 5\n\n\nnow\n\nnever\n\nnor this")

    def test_only_empty_rows(self):
        self.assert_bad(1, "")
        self.assert_bad(2, "\n")
        self.assert_bad(3, "\n\n")
        self.assert_bad(299, "\n" * 298)
        self.assert_bad(300, "\n" * 299)

    def test_more_than_three_hundred_empty_rows(self):
        # The row of number 300 is the first one that isn't so written.
        self.assert_bad(300, "\n" * 300)
        self.assert_bad(300, "\n" * 999)

    def test_three_hundred_rows(self):
        self.assertEqual(run("hall 1 5" + "\nnow" * 299), ["0"] * 299)
        self.assert_bad(300, "hall 1 5" + "\nnow" * 300)
        self.assert_bad(300, "hall 1 5" + "\nnow" * 500)
        self.assertEqual(run("hall 1 5" + "\n" * 299), [])
        self.assert_bad(300, "hall 1 5" + "\n" * 300)
        self.assertEqual(run("\n" * 299 + "hall 1 5"), [])
        self.assert_bad(300, "\n" * 300 + "hall 1 5")
        self.assertEqual(run("hall 1 5" + "\n" * 299 + "now"), ["0"])
        self.assert_bad(300, "hall 1 5" + "\n" * 300 + "now")

    def test_an_earlier_row_goes_first(self):
        self.assert_bad(299, "hall 1 5" + "\nnow" * 298 + "\nno\nnow")
        self.assert_bad(1, "hall 1 5\nno" + "\nnow" * 400)
        self.assert_bad(0, "no" + "\n" * 400)
        self.assert_bad(2, "hall 1 5\nnow\nguild g\ntime a")

    def test_no_answers_where_a_later_row_is_bad(self):
        # The refusals of events come behind all of it.
        self.assert_bad(3, "hall 1 5\nquit a\nnow\nbad")
        self.assert_bad(4, "hall 1 5\ntime 5\ntime 4\nlet o\ntime")

    def test_rows_are_not_told_by_events(self):
        self.assertEqual(run("hall 1 5\ntime 5\ntime 4\nlet o"), ["-", "refused Past", "refused NoHouse"])


class Answers(unittest.TestCase):
    def test_kinds(self):
        told = answers("now", "gangs")
        self.assertIs(type(told), list)
        self.assertEqual([type(one) for one in told], [str, str])

    def test_the_same_again(self):
        text = "\n".join(HEAD + ("gang a g 0 4 1 any 30", "gang b g 2 3 1 any 4", "gangs", "time 40"))
        first = run(text)
        second = run(text)
        self.assertEqual(first, second)
        self.assertIsNot(first, second)
        first.clear()
        self.assertEqual(run(text), second)


def row_of(event):
    """An event as a row of a story."""
    words = []
    for part in event:
        words += list(part) if isinstance(part, tuple) and isinstance(part[0], str) else [part]
    return " ".join("/".join(str(n) for n in word) if isinstance(word, tuple) else str(word) for word in words)


def text_of(part):
    if isinstance(part, tuple):
        return ",".join(f"{one}:{other}" for one, other in part) or "-"
    return str(part)


class BesideTheHall(unittest.TestCase):
    """Stories of drawn events, beside a hall of its own that does the same."""

    def test_rows(self):
        self.assertEqual(row_of(("plan", gang_of("a", want=(1, 2)), 7)), "plan a g 0 1 1/2 any 10 7")
        self.assertEqual(row_of(("kind", "k", "x", (3, 4), 2)), "kind k x 3/4 2")

    def wanted(self, hall, event):
        told = answer(hall, event)
        if isinstance(told, str):
            return "refused " + told.split()[0]
        return "; ".join(" ".join(text_of(part) for part in row) for row in told) or "-"

    def why(self, hall, name):
        if name not in [gang[0] for gang in hall.waiting_gangs()]:
            return "refused NoGang"
        word, *parts = reason_of(hall, name)
        if word in ("plans", "room"):
            parts[0] = ",".join(parts[0]) or "-"
        if word == "plans":
            parts[1] = ",".join(parts[1])
        return " ".join([word] + [text_of(part) for part in parts])

    def fetches(self, hall, name):
        if name not in [gang[0] for gang in hall.waiting_gangs()]:
            return "refused NoGang"
        told = fetch_for(hall, name)
        return "-" if told is None else f"{told[0]} {told[1]}"

    def test_drawn_stories(self):
        for seed in range(30):
            chance = random.Random(seed)
            hall = Hall(2, 4)
            rows, wanted = ["hall 2 4"], []
            for event in all_events(chance, 70):
                rows.append(row_of(event))
                wanted.append(self.wanted(hall, event))
                name = chance.choice("abcdefghij")
                rows += [f"why {name}", f"fetches {name}", "spare"]
                wanted += [self.why(hall, name), self.fetches(hall, name), ",".join(spare_now(hall)) or "-"]
            self.assertEqual(run("\n".join(rows)), wanted)


if __name__ == "__main__":
    unittest.main()
