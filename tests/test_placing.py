"""Placing [6], [7]."""

import copy
import itertools
import unittest

from clusterhall.placing import counts_of, placed, shows_none, shows_placed

GREAT = 10 ** 12
HOWS = ("any", "apart", "near", "wide")

# Houses d and b in yard x, a and c in yard y, e in yard w; each has room for as many tasks of (1, 2) as told.
SITE = [("d", "x", (3, 9)), ("a", "y", (1, 2)), ("e", "w", (9, 1)), ("c", "y", (5, 5)), ("b", "x", (2, 4))]
WANT = (1, 2)      # a 1, b 2, c 2, d 3, e 0


class Counts(unittest.TestCase):
    def test_counts_by_rising_houses(self):
        wanted = (("a", 1), ("b", 2), ("c", 2), ("d", 3), ("e", 0))
        self.assertEqual(counts_of(SITE, 10, WANT, "any"), wanted)
        self.assertEqual(counts_of(SITE, 10, WANT, "near"), wanted)

    def test_at_most_many(self):
        self.assertEqual(counts_of(SITE, 2, WANT, "any"), (("a", 1), ("b", 2), ("c", 2), ("d", 2), ("e", 0)))
        self.assertEqual(counts_of(SITE, 1, WANT, "near"), (("a", 1), ("b", 1), ("c", 1), ("d", 1), ("e", 0)))
        self.assertEqual(counts_of([("a", "x", (GREAT,))], 60, (1,), "any"), (("a", 60),))

    def test_at_most_one_for_apart_and_wide(self):
        wanted = (("a", 1), ("b", 1), ("c", 1), ("d", 1), ("e", 0))
        self.assertEqual(counts_of(SITE, 10, WANT, "apart"), wanted)
        self.assertEqual(counts_of(SITE, 10, WANT, "wide"), wanted)
        self.assertEqual(counts_of(SITE, 1, WANT, "wide"), wanted)

    def test_no_house_at_all(self):
        for how in HOWS:
            self.assertEqual(counts_of([], 3, WANT, how), ())

    def test_a_want_with_noughts(self):
        self.assertEqual(counts_of([("a", "x", (0, 7))], 9, (0, 2), "any"), (("a", 3),))
        self.assertEqual(counts_of([("a", "x", (0, 7))], 9, (1, 0), "any"), (("a", 0),))

    def test_names_are_compared_as_texts(self):
        site = [("b", "x", (1,)), ("ab", "x", (1,)), ("a", "x", (1,)), ("aaaaaaaa", "x", (1,))]
        self.assertEqual(counts_of(site, 1, (1,), "any"), (("a", 1), ("aaaaaaaa", 1), ("ab", 1), ("b", 1)))


class Placed(unittest.TestCase):
    def test_any(self):
        self.assertEqual(placed(SITE, 1, WANT, "any"), ("told", (("a", 1),)))
        self.assertEqual(placed(SITE, 2, WANT, "any"), ("told", (("a", 1), ("b", 1))))
        self.assertEqual(placed(SITE, 3, WANT, "any"), ("told", (("a", 1), ("b", 2))))
        self.assertEqual(placed(SITE, 7, WANT, "any"), ("told", (("a", 1), ("b", 2), ("c", 2), ("d", 2))))

    def test_any_passes_over_houses_without_room(self):
        site = [("a", "x", (0,)), ("b", "x", (1,)), ("c", "x", (0,)), ("d", "x", (2,))]
        self.assertEqual(placed(site, 2, (1,), "any"), ("told", (("b", 1), ("d", 1))))

    def test_any_just_as_many_and_one_more(self):
        self.assertEqual(placed(SITE, 8, WANT, "any"), ("told", (("a", 1), ("b", 2), ("c", 2), ("d", 3))))
        self.assertEqual(placed(SITE, 9, WANT, "any"), ("none", (("a", 1), ("b", 2), ("c", 2), ("d", 3), ("e", 0))))

    def test_apart(self):
        self.assertEqual(placed(SITE, 1, WANT, "apart"), ("told", (("a", 1),)))
        self.assertEqual(placed(SITE, 3, WANT, "apart"), ("told", (("a", 1), ("b", 1), ("c", 1))))

    def test_apart_just_as_many_and_one_more(self):
        self.assertEqual(placed(SITE, 4, WANT, "apart"), ("told", (("a", 1), ("b", 1), ("c", 1), ("d", 1))))
        self.assertEqual(placed(SITE, 5, WANT, "apart"),
                         ("none", (("a", 1), ("b", 1), ("c", 1), ("d", 1), ("e", 0))))

    def test_near(self):
        # The yard w can take none, x five, y three: x is the first one for up to five.
        self.assertEqual(placed(SITE, 1, WANT, "near"), ("told", (("b", 1),)))
        self.assertEqual(placed(SITE, 3, WANT, "near"), ("told", (("b", 2), ("d", 1))))

    def test_near_in_a_later_yard(self):
        site = [("a", "z", (9,)), ("b", "x", (2,)), ("c", "y", (2,)), ("d", "y", (2,))]
        self.assertEqual(placed(site, 2, (1,), "near"), ("told", (("b", 2),)))
        self.assertEqual(placed(site, 3, (1,), "near"), ("told", (("c", 2), ("d", 1))))
        self.assertEqual(placed(site, 5, (1,), "near"), ("told", (("a", 5),)))

    def test_near_just_as_many_and_one_more(self):
        self.assertEqual(placed(SITE, 5, WANT, "near"), ("told", (("b", 2), ("d", 3))))
        self.assertEqual(placed(SITE, 6, WANT, "near"),
                         ("none", (("a", 1), ("b", 2), ("c", 2), ("d", 3), ("e", 0))))

    def test_near_counts_a_house_for_no_more_than_many(self):
        site = [("a", "x", (2,)), ("b", "y", (1,)), ("c", "y", (1,))]
        self.assertEqual(placed(site, 3, (1,), "near"), ("none", (("a", 2), ("b", 1), ("c", 1))))

    def test_wide(self):
        # By yards: w none, x house b, y house a; but a placing is by rising houses.
        self.assertEqual(placed(SITE, 1, WANT, "wide"), ("told", (("b", 1),)))
        self.assertEqual(placed(SITE, 2, WANT, "wide"), ("told", (("a", 1), ("b", 1))))

    def test_wide_takes_the_first_house_with_room(self):
        site = [("a", "x", (0,)), ("b", "x", (4,)), ("c", "x", (9,)), ("d", "y", (1,)), ("e", "w", (0,))]
        self.assertEqual(placed(site, 2, (1,), "wide"), ("told", (("b", 1), ("d", 1))))

    def test_wide_takes_the_first_yards(self):
        site = [("a", "z", (1,)), ("b", "y", (1,)), ("c", "x", (1,)), ("d", "w", (1,))]
        self.assertEqual(placed(site, 1, (1,), "wide"), ("told", (("d", 1),)))
        self.assertEqual(placed(site, 3, (1,), "wide"), ("told", (("b", 1), ("c", 1), ("d", 1))))

    def test_wide_just_as_many_and_one_more(self):
        self.assertEqual(placed(SITE, 3, WANT, "wide"),
                         ("none", (("a", 1), ("b", 1), ("c", 1), ("d", 1), ("e", 0))))

    def test_no_house_at_all(self):
        for how in HOWS:
            self.assertEqual(placed([], 1, WANT, how), ("none", ()))

    def test_houses_and_yards_called_alike(self):
        site = [("a", "b", (1,)), ("b", "a", (1,)), ("c", "c", (2,)), ("d", "b", (1,))]
        self.assertEqual(placed(site, 2, (1,), "near"), ("told", (("a", 1), ("d", 1))))
        self.assertEqual(placed(site, 1, (1,), "near"), ("told", (("b", 1),)))
        self.assertEqual(placed(site, 1, (1,), "wide"), ("told", (("b", 1),)))
        self.assertEqual(placed(site, 3, (1,), "wide"), ("told", (("a", 1), ("b", 1), ("c", 1))))
        self.assertEqual(placed(site, 5, (1,), "any"), ("told", (("a", 1), ("b", 1), ("c", 2), ("d", 1))))

    def test_the_order_of_the_site_is_nothing(self):
        for site in itertools.permutations(SITE):
            for how, many in itertools.product(HOWS, (2, 6)):
                self.assertEqual(placed(list(site), many, WANT, how), placed(SITE, many, WANT, how))

    def test_many_tasks_and_great_amounts(self):
        site = [("a", "x", (59 * GREAT,)), ("b", "x", (GREAT,)), ("c", "y", (60 * GREAT - 1,))]
        self.assertEqual(placed(site, 60, (GREAT,), "near"), ("told", (("a", 59), ("b", 1))))

    def test_the_site_stays_as_it_was(self):
        site = list(SITE)
        before = copy.deepcopy(site)
        for how, many in itertools.product(HOWS, (1, 2, 9)):
            counts = counts_of(site, many, WANT, how)
            told = placed(site, many, WANT, how)
            shows_placed(site, many, WANT, how, told[1])
            shows_none(site, many, WANT, how, counts)
        self.assertEqual(site, before)

    def test_kinds(self):
        for how, many in itertools.product(HOWS, (1, 9)):
            counts = counts_of(SITE, many, WANT, how)
            told = placed(SITE, many, WANT, how)
            self.assertIs(type(told), tuple)
            for pairs in (counts, told[1]):
                self.assertIs(type(pairs), tuple)
                self.assertEqual({type(pair) for pair in pairs}, {tuple})
                self.assertEqual({type(n) for house, n in pairs}, {int})


class ShowsPlaced(unittest.TestCase):
    def shows(self, many, how, *placing):
        return shows_placed(SITE, many, WANT, how, placing)

    def test_what_is_told_is_shown(self):
        for how, many in itertools.product(HOWS, range(1, 10)):
            word, pairs = placed(SITE, many, WANT, how)
            self.assertIs(shows_placed(SITE, many, WANT, how, pairs), word == "told")

    def test_other_placings_are_shown(self):
        self.assertIs(self.shows(3, "any", ("d", 3)), True)
        self.assertIs(self.shows(4, "any", ("a", 1), ("c", 2), ("d", 1)), True)
        self.assertIs(self.shows(2, "apart", ("c", 1), ("d", 1)), True)
        self.assertIs(self.shows(3, "near", ("a", 1), ("c", 2)), True)
        self.assertIs(self.shows(3, "near", ("d", 3)), True)
        self.assertIs(self.shows(2, "wide", ("c", 1), ("d", 1)), True)

    def test_order(self):
        self.assertIs(self.shows(3, "any", ("b", 2), ("a", 1)), False)
        self.assertIs(self.shows(2, "wide", ("b", 1), ("a", 1)), False)
        self.assertIs(self.shows(4, "any", ("a", 1), ("c", 1), ("b", 2)), False)

    def test_a_house_twice(self):
        self.assertIs(self.shows(2, "any", ("b", 1), ("b", 1)), False)
        self.assertIs(self.shows(3, "near", ("d", 1), ("d", 2)), False)
        self.assertIs(self.shows(2, "apart", ("b", 1), ("b", 1)), False)
        self.assertIs(self.shows(2, "wide", ("b", 1), ("b", 1)), False)

    def test_numbers(self):
        self.assertIs(self.shows(2, "any", ("a", 2)), False)
        self.assertIs(self.shows(1, "any", ("a", 1), ("b", 0)), False)
        self.assertIs(self.shows(1, "any", ("e", 0), ("f", 1)), False)
        self.assertIs(self.shows(1, "any", ("a", -1), ("b", 2)), False)
        self.assertIs(self.shows(1, "any", ("e", 1)), False)
        self.assertIs(self.shows(2, "apart", ("b", 2)), False)
        self.assertIs(self.shows(2, "wide", ("b", 2)), False)

    def test_together_many(self):
        self.assertIs(self.shows(3, "any", ("a", 1), ("b", 1)), False)
        self.assertIs(self.shows(2, "any", ("a", 1), ("b", 2)), False)
        self.assertIs(self.shows(1, "any"), False)
        self.assertIs(self.shows(1, "near"), False)
        self.assertIs(self.shows(1, "wide"), False)

    def test_houses_that_are_not_there(self):
        for house in ("f", "", "x", "A", "not a name"):
            self.assertIs(self.shows(1, "any", (house, 1)), False)
            self.assertIs(self.shows(1, "near", (house, 1)), False)
            self.assertIs(self.shows(1, "wide", (house, 1)), False)
        self.assertIs(shows_placed([], 1, WANT, "near", (("a", 1),)), False)
        self.assertIs(shows_placed([], 1, WANT, "any", ()), False)

    def test_yards(self):
        self.assertIs(self.shows(3, "near", ("a", 1), ("b", 2)), False)
        self.assertIs(self.shows(2, "wide", ("b", 1), ("d", 1)), False)
        self.assertIs(self.shows(2, "apart", ("b", 1), ("d", 1)), True)

    def test_houses_and_yards_called_alike(self):
        site = [("a", "b", (1,)), ("b", "a", (1,)), ("c", "b", (1,))]
        self.assertIs(shows_placed(site, 2, (1,), "near", (("a", 1), ("c", 1))), True)
        self.assertIs(shows_placed(site, 2, (1,), "near", (("a", 1), ("b", 1))), False)
        self.assertIs(shows_placed(site, 2, (1,), "wide", (("a", 1), ("b", 1))), True)
        self.assertIs(shows_placed(site, 2, (1,), "wide", (("a", 1), ("c", 1))), False)


class ShowsNone(unittest.TestCase):
    def test_right_counts(self):
        for how, most in (("any", 8), ("apart", 4), ("near", 5), ("wide", 2)):
            for many in range(1, 12):
                with self.subTest(how=how, many=many):
                    counts = counts_of(SITE, many, WANT, how)
                    self.assertIs(shows_none(SITE, many, WANT, how, counts), many > most)

    def test_no_house_at_all(self):
        for how in HOWS:
            self.assertIs(shows_none([], 1, WANT, how, ()), True)
            self.assertIs(shows_none([], 1, WANT, how, (("a", 0),)), False)

    def test_houses_without_room(self):
        site = [("a", "x", (0,)), ("b", "y", (0,))]
        for how in HOWS:
            self.assertIs(shows_none(site, 1, (1,), how, (("a", 0), ("b", 0))), True)

    def test_spoilt_counts(self):
        right = (("a", 1), ("b", 2), ("c", 2), ("d", 3), ("e", 0))
        self.assertIs(shows_none(SITE, 9, WANT, "any", right), True)
        spoilt = [
            (),
            right[:-1],
            right[1:],
            right[::-1],
            (right[1], right[0]) + right[2:],
            right + (("f", 0),),
            right + (("e", 0),),
            (("a", 1),) + right,
            (("a", 0),) + right[1:],
            (("a", 2),) + right[1:],
            (("b", 1),) + right[1:],
            right[:-1] + (("f", 0),),
            right[:-1] + (("e", -1),),
            right[:-1] + (("", 0),),
        ]
        for counts in spoilt:
            with self.subTest(counts=counts):
                self.assertIs(shows_none(SITE, 9, WANT, "any", counts), False)
                self.assertIs(shows_none(SITE, 9, WANT, "near", counts), False)

    def test_counts_of_another_how(self):
        for_any = counts_of(SITE, 9, WANT, "any")
        for_wide = counts_of(SITE, 9, WANT, "wide")
        self.assertIs(shows_none(SITE, 9, WANT, "wide", for_any), False)
        self.assertIs(shows_none(SITE, 9, WANT, "any", for_wide), False)

    def test_counts_of_another_many(self):
        self.assertIs(shows_none(SITE, 6, WANT, "near", counts_of(SITE, 2, WANT, "near")), False)


def plain_count(left, many, want, how):
    """n of [6], by trying."""
    most = 1 if how in ("apart", "wide") else many
    n = 0
    while n < most and all((n + 1) * need <= have for need, have in zip(want, left)):
        n += 1
    return n


def plain_placings(site, many, want, how):
    """All placings of a site, by the words of [6]."""
    houses = sorted(site)
    ranges = [range(plain_count(left, many, want, how) + 1) for house, yard, left in houses]
    placings = []
    for numbers in itertools.product(*ranges):
        used = [(house, yard, n) for (house, yard, left), n in zip(houses, numbers) if n > 0]
        yards = [yard for house, yard, n in used]
        if sum(numbers) != many or how == "near" and len(set(yards)) > 1:
            continue
        if how == "wide" and len(set(yards)) < len(yards):
            continue
        placings.append(tuple((house, n) for house, yard, n in used))
    return placings


class AgainstAllPlacings(unittest.TestCase):
    def sites(self):
        """All sites of three houses in two yards, each with room for none to two."""
        for yards in itertools.product("xy", repeat=3):
            for lefts in itertools.product(range(3), repeat=3):
                yield [("b", yards[0], (lefts[0],)), ("a", yards[1], (lefts[1],)), ("c", yards[2], (lefts[2],))]

    def test_told_just_where_there_is_a_placing(self):
        for site in self.sites():
            for many, how in itertools.product(range(1, 6), HOWS):
                placings = plain_placings(site, many, (1,), how)
                counts = tuple((house, plain_count(left, many, (1,), how)) for house, yard, left in sorted(site))
                told = placed(site, many, (1,), how)
                if placings:
                    self.assertEqual(told[0], "told", (site, many, how))
                    self.assertIn(told[1], placings, (site, many, how))
                else:
                    self.assertEqual(told, ("none", counts), (site, many, how))
                self.assertIs(shows_none(site, many, (1,), how, counts), not placings)

    def test_shown_just_where_it_is_a_placing(self):
        pairs = list(itertools.product("abc", (0, 1, 2)))
        tries = [()] + [(one,) for one in pairs] + list(itertools.product(pairs, repeat=2))
        for site in list(self.sites())[::5]:
            for many, how in itertools.product(range(1, 4), HOWS):
                placings = plain_placings(site, many, (1,), how)
                for placing in tries:
                    self.assertIs(shows_placed(site, many, (1,), how, placing), placing in placings,
                                  (site, many, how, placing))


if __name__ == "__main__":
    unittest.main()
