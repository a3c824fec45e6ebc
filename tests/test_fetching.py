"""Fetching [15]."""

import itertools
import random
import unittest

from makers import all_of, book, estate_of, gang_of

from clusterhall.estate import Estate
from clusterhall.fetching import best_fetch, fetched_of, fits_with, least_more, spare_houses
from clusterhall.placing import placed

HOWS = ("any", "apart", "near", "wide")


def kind_of(name="k", yard="x", room=(4,), most=5):
    return (name, yard, room, most)


def add_kind_houses(estate, kind, *names):
    for name in names:
        estate.add_house(name, kind[1], kind[2], kind[0])


class FetchedOf(unittest.TestCase):
    def test_none_at_all(self):
        self.assertEqual(fetched_of(Estate(), "k"), 0)
        self.assertEqual(fetched_of(estate_of(("a", "x", (1,)), ("k", "x", (1,))), "k"), 0)

    def test_of_that_kind_alone(self):
        estate = estate_of(("a", "k", (1,)), ("k", "x", (1,)))
        add_kind_houses(estate, kind_of("k"), "b", "c", "d")
        add_kind_houses(estate, kind_of("kk"), "e")
        add_kind_houses(estate, kind_of("j"), "f", "g")
        self.assertEqual([fetched_of(estate, name) for name in ("k", "kk", "j", "x", "a")], [3, 1, 2, 0, 0])

    def test_shut_ones_and_dropped_ones(self):
        estate = Estate()
        add_kind_houses(estate, kind_of("k"), "b", "c", "d")
        estate.set_state("c", "shut")
        self.assertEqual(fetched_of(estate, "k"), 3)
        estate.drop_house("b")
        self.assertEqual(fetched_of(estate, "k"), 2)

    def test_ones_with_entries(self):
        estate = Estate()
        add_kind_houses(estate, kind_of("k"), "b", "c")
        book(estate, "p", 0, 9, (("b", 4),))
        self.assertEqual(fetched_of(estate, "k"), 2)

    def test_it_is_a_number(self):
        self.assertIs(type(fetched_of(Estate(), "k")), int)


class FitsWith(unittest.TestCase):
    def test_no_more(self):
        estate = estate_of(("a", "x", (4,)))
        book(estate, "p", 10, 20, (("a", 2),))
        self.assertIs(fits_with(estate, kind_of(), 0, gang_of("z", many=4), 0), True)
        self.assertIs(fits_with(estate, kind_of(), 0, gang_of("z", many=3), 1), False)
        self.assertIs(fits_with(estate, kind_of(), 0, gang_of("z", many=2), 1), True)
        self.assertIs(fits_with(estate, kind_of(), 0, gang_of("z", many=4), 20), True)
        self.assertIs(fits_with(Estate(), kind_of(), 0, gang_of("z"), 0), False)

    def test_some_more(self):
        estate = estate_of(("a", "x", (4,)))
        book(estate, "p", 10, 20, (("a", 3),))
        for n, many in itertools.product(range(4), range(1, 16)):
            self.assertIs(fits_with(estate, kind_of(), n, gang_of("z", many=many), 10), many <= 1 + 4 * n)

    def test_no_houses_yet(self):
        self.assertIs(fits_with(Estate(), kind_of(), 1, gang_of("z", many=4), 7), True)
        self.assertIs(fits_with(Estate(), kind_of(), 1, gang_of("z", many=5), 7), False)

    def test_each_how(self):
        # One task has a place in a, in the yard x; the kind's houses have room for two each, in the yard y.
        estate = estate_of(("a", "x", (1,)))
        kind = kind_of(yard="y", room=(2,))
        most = {how: [max([many for many in range(1, 20) if fits_with(estate, kind, n, gang_of("z", many=many, how=how), 0)])
                      for n in range(4)] for how in HOWS}
        self.assertEqual(most, {"any": [1, 3, 5, 7], "apart": [1, 2, 3, 4], "near": [1, 2, 4, 6], "wide": [1, 2, 2, 2]})

    def test_a_yard_that_is_there(self):
        estate = estate_of(("a", "x", (1,)), ("b", "w", (3,)))
        kind = kind_of(yard="x", room=(2,))
        most = {how: [max([many for many in range(1, 20) if fits_with(estate, kind, n, gang_of("z", many=many, how=how), 0)])
                      for n in range(4)] for how in HOWS}
        self.assertEqual(most, {"any": [4, 6, 8, 10], "apart": [2, 3, 4, 5], "near": [3, 3, 5, 7], "wide": [2, 2, 2, 2]})

    def test_houses_of_any_names(self):
        # Whatever the houses are called that are there, more ones are none of them.
        names = [*"abcdefghij", "k", "ka", "kb", "more", "new", "house", "x", "xa", "zzzzzzzz"]
        estate = estate_of(*[(name, "x", (1,)) for name in names])
        for n in range(5):
            wanted = len(names) + n
            kind = kind_of(room=(1,))
            for how in ("any", "apart", "near"):
                self.assertIs(fits_with(estate, kind, n, gang_of("z", many=wanted, how=how), 0), True)
                self.assertIs(fits_with(estate, kind, n, gang_of("z", many=wanted + 1, how=how), 0), False)

    def test_houses_of_the_kinds_name(self):
        estate = Estate()
        add_kind_houses(estate, kind_of("k"), "k", "ka", "kb")
        self.assertIs(fits_with(estate, kind_of("k"), 2, gang_of("z", many=20, how="near"), 0), True)
        self.assertIs(fits_with(estate, kind_of("k"), 2, gang_of("z", many=21, how="near"), 0), False)

    def test_more_than_most(self):
        self.assertIs(fits_with(Estate(), kind_of(most=2), 9, gang_of("z", many=36), 0), True)

    def test_shut_houses_stay_shut(self):
        estate = Estate()
        add_kind_houses(estate, kind_of("k"), "a")
        estate.set_state("a", "shut")
        self.assertIs(fits_with(estate, kind_of("k"), 0, gang_of("z"), 0), False)
        self.assertIs(fits_with(estate, kind_of("k"), 1, gang_of("z", many=4), 0), True)
        self.assertIs(fits_with(estate, kind_of("k"), 1, gang_of("z", many=5), 0), False)

    def test_several_wares(self):
        kind = kind_of(room=(4, 0, 9))
        self.assertIs(fits_with(Estate(), kind, 2, gang_of("z", many=4, want=(2, 0, 4)), 0), True)
        self.assertIs(fits_with(Estate(), kind, 2, gang_of("z", many=4, want=(2, 0, 5)), 0), False)
        self.assertIs(fits_with(Estate(), kind, 40, gang_of("z", want=(0, 1, 0)), 0), False)


class LeastMore(unittest.TestCase):
    def test_none_needed(self):
        estate = estate_of(("a", "x", (4,)))
        self.assertEqual(least_more(estate, kind_of(), gang_of("z", many=4), 0), 0)
        self.assertIs(type(least_more(estate, kind_of(), gang_of("z", many=4), 0)), int)

    def test_numbers_up_to_most(self):
        estate = estate_of(("a", "x", (3,)))
        kind = kind_of(room=(2,), most=4)
        wanted = [0, 0, 0, 1, 1, 2, 2, 3, 3, 4, 4, None, None]
        self.assertEqual([least_more(estate, kind, gang_of("z", many=many), 0) for many in range(1, 14)], wanted)

    def test_those_that_are_there_count(self):
        estate = Estate()
        kind = kind_of(room=(2,), most=4)
        add_kind_houses(estate, kind, "a", "b", "c")
        self.assertEqual([least_more(estate, kind, gang_of("z", many=many), 0) for many in range(5, 11)],
                         [0, 0, 1, 1, None, None])
        estate.set_state("c", "shut")
        self.assertEqual([least_more(estate, kind, gang_of("z", many=many), 0) for many in range(3, 9)],
                         [0, 0, 1, 1, None, None])

    def test_just_most_are_there(self):
        estate = Estate()
        kind = kind_of(room=(2,), most=2)
        add_kind_houses(estate, kind, "a", "b")
        self.assertEqual(least_more(estate, kind, gang_of("z", many=4), 0), 0)
        self.assertIsNone(least_more(estate, kind, gang_of("z", many=5), 0))

    def test_more_than_most_are_there(self):
        estate = Estate()
        kind = kind_of(room=(2,), most=2)
        add_kind_houses(estate, kind, "a", "b", "c")
        self.assertIsNone(least_more(estate, kind, gang_of("z", many=1), 0))
        self.assertIsNone(least_more(estate, kind, gang_of("z", many=7), 0))

    def test_others_do_not_count(self):
        estate = estate_of(("k", "x", (1,)))
        add_kind_houses(estate, kind_of("kk", room=(1,)), "b", "c")
        self.assertEqual(least_more(estate, kind_of("k", room=(1,), most=2), gang_of("z", many=5), 0), 2)

    def test_by_the_stretch(self):
        estate = estate_of(("a", "x", (4,)))
        book(estate, "p", 10, 20, (("a", 4),))
        gang = gang_of("z", many=4, length=5)
        self.assertEqual([least_more(estate, kind_of(), gang, begin) for begin in (5, 6, 19, 20)], [0, 1, 1, 0])

    def test_each_how(self):
        estate = estate_of(("a", "x", (2,)))
        kind = kind_of(yard="x", room=(2,), most=9)
        told = [least_more(estate, kind, gang_of("z", many=4, how=how), 0) for how in HOWS]
        self.assertEqual(told, [1, 3, 1, None])
        kind = kind_of(yard="y", room=(2,), most=9)
        told = [least_more(estate, kind, gang_of("z", many=4, how=how), 0) for how in HOWS]
        self.assertEqual(told, [1, 3, 2, None])
        self.assertEqual(least_more(estate, kind, gang_of("z", many=2, how="wide"), 0), 1)

    def test_forty(self):
        self.assertEqual(least_more(Estate(), kind_of(room=(1,), most=40), gang_of("z", many=40), 0), 40)
        self.assertIsNone(least_more(Estate(), kind_of(room=(1,), most=40), gang_of("z", many=41), 0))


class BestFetch(unittest.TestCase):
    KINDS = [kind_of("m", room=(2,)), kind_of("l", room=(3,)), kind_of("big", room=(6,), most=1)]

    def test_the_least_number(self):
        told = [best_fetch(Estate(), self.KINDS, gang_of("z", many=many), 0) for many in (1, 3, 4, 6, 7, 12, 13, 15, 16)]
        self.assertEqual(told, [("big", 1), ("big", 1), ("big", 1), ("big", 1), ("l", 3), ("l", 4), ("l", 5), ("l", 5),
                                None])

    def test_then_the_least_name(self):
        kinds = [kind_of("b"), kind_of("c"), kind_of("ab"), kind_of("d", room=(9,))]
        for some in itertools.permutations(kinds):
            self.assertEqual(best_fetch(Estate(), list(some), gang_of("z", many=4), 0), ("ab", 1))
            self.assertEqual(best_fetch(Estate(), list(some), gang_of("z", many=5), 0), ("d", 1))

    def test_none_where_it_can_be_placed_without(self):
        estate = estate_of(("a", "x", (4,)))
        self.assertIsNone(best_fetch(estate, self.KINDS, gang_of("z", many=4), 0))
        self.assertEqual(best_fetch(estate, self.KINDS, gang_of("z", many=5), 0), ("big", 1))
        add_kind_houses(estate, kind_of("big", room=(1,)), "b", "c")
        self.assertIsNone(best_fetch(estate, self.KINDS, gang_of("z", many=6), 0))

    def test_none_where_no_kind_has_one(self):
        self.assertIsNone(best_fetch(Estate(), [], gang_of("z"), 0))
        self.assertIsNone(best_fetch(Estate(), self.KINDS, gang_of("z", want=(7,)), 0))
        self.assertIsNone(best_fetch(Estate(), self.KINDS, gang_of("z", many=2, how="wide"), 0))

    def test_a_kind_of_which_all_are_there(self):
        estate = Estate()
        add_kind_houses(estate, self.KINDS[2], "a")
        self.assertEqual(best_fetch(estate, self.KINDS, gang_of("z", many=9), 0), ("l", 1))
        add_kind_houses(estate, self.KINDS[2], "b")
        self.assertEqual(best_fetch(estate, self.KINDS, gang_of("z", many=15), 0), ("l", 1))

    def test_by_the_stretch_and_kinds(self):
        estate = estate_of(("a", "x", (4,)))
        book(estate, "p", 10, 20, (("a", 4),))
        told = [best_fetch(estate, self.KINDS, gang_of("z", many=4), begin) for begin in (0, 1, 19, 20)]
        self.assertEqual(told, [None, ("big", 1), ("big", 1), None])
        self.assertEqual([type(part) for part in told[1]], [str, int])
        self.assertIs(type(told[1]), tuple)


class SpareHouses(unittest.TestCase):
    def estate(self):
        """Houses a, b of room 2, c, d of room 4 of kinds, e of none, added in another order."""
        estate = estate_of(("e", "x", (2,)))
        add_kind_houses(estate, kind_of("big", room=(4,)), "d", "c")
        add_kind_houses(estate, kind_of("small", room=(2,)), "b", "a")
        return estate

    def test_no_gangs_at_all(self):
        self.assertEqual(spare_houses(self.estate(), []), ["a", "b", "c", "d"])
        self.assertEqual(spare_houses(Estate(), []), [])

    def test_those_in_which_no_want_fits(self):
        estate = self.estate()
        self.assertEqual(spare_houses(estate, [gang_of("z", want=(2,))]), [])
        self.assertEqual(spare_houses(estate, [gang_of("z", want=(3,))]), ["a", "b"])
        self.assertEqual(spare_houses(estate, [gang_of("z", want=(4,))]), ["a", "b"])
        self.assertEqual(spare_houses(estate, [gang_of("z", want=(5,))]), ["a", "b", "c", "d"])
        self.assertEqual(spare_houses(estate, [gang_of("z", want=(5,)), gang_of("y", want=(3,))]), ["a", "b"])
        self.assertEqual(spare_houses(estate, [gang_of("z", want=(1,)), gang_of("y", want=(3,))]), [])

    def test_one_want_is_enough(self):
        self.assertEqual(spare_houses(self.estate(), [gang_of("z", many=60, want=(2,), how="near")]), [])

    def test_ones_with_entries(self):
        estate = self.estate()
        book(estate, "p", 0, 9, (("a", 1), ("c", 1)))
        book(estate, "q", 50, 60, (("b", 1),))
        self.assertEqual(spare_houses(estate, []), ["d"])
        estate.drop_gang("p")
        self.assertEqual(spare_houses(estate, []), ["a", "c", "d"])

    def test_whole_rooms_in_any_state(self):
        estate = self.estate()
        for name in ("a", "d", "e"):
            estate.set_state(name, "shut")
        self.assertEqual(spare_houses(estate, []), ["a", "b", "c", "d"])
        self.assertEqual(spare_houses(estate, [gang_of("z", want=(3,))]), ["a", "b"])

    def test_several_wares(self):
        estate = Estate()
        estate.add_house("a", "x", (4, 0), "k")
        estate.add_house("b", "x", (0, 4), "k")
        estate.add_house("c", "x", (4, 4), "k")
        self.assertEqual(spare_houses(estate, [gang_of("z", want=(1, 1))]), ["a", "b"])
        self.assertEqual(spare_houses(estate, [gang_of("z", want=(1, 0))]), ["b"])

    def test_its_list_is_its_own(self):
        estate = self.estate()
        told = spare_houses(estate, [])
        self.assertIs(type(told), list)
        told.clear()
        self.assertEqual(spare_houses(estate, []), ["a", "b", "c", "d"])
        self.assertIsNot(spare_houses(estate, []), spare_houses(estate, []))


class AgainstEstatesWithMoreHouses(unittest.TestCase):
    """fits_with and least_more, by really adding houses to twins."""

    def fits(self, estate, kind, n, gang, begin):
        twin = estate.twin_estate()
        add_kind_houses(twin, kind, *["zz" + "abcdefgh"[at] for at in range(n)])
        return placed(twin.site_for(begin, begin + gang[6]), gang[3], gang[4], gang[5])[0] == "told"

    def test_many_estates(self):
        chance = random.Random(15)
        seen = set()
        for turn in range(300):
            kind = kind_of(chance.choice("kl"), chance.choice("xy"), (chance.randrange(1, 5),), chance.randrange(1, 6))
            estate = estate_of(*[(name, chance.choice("xyz"), (chance.randrange(1, 5),)) for name in "abc"])
            add_kind_houses(estate, kind_of("k", room=(2,)), *"defghi"[:chance.randrange(4)])
            book(estate, "p", chance.randrange(20), 20, (("a", 1), ("b", 1)))
            estate.set_state(chance.choice("abc"), chance.choice(["open", "shut"]))
            gang = gang_of("z", many=chance.randrange(1, 15), how=chance.choice(HOWS))
            before = all_of(estate)
            fits = [self.fits(estate, kind, n, gang, 3) for n in range(7)]
            self.assertEqual([fits_with(estate, kind, n, gang, 3) for n in range(7)], fits)
            there = len([row for row in estate.house_rows() if row[3] == kind[0]])
            able = [n for n in range(max(0, kind[3] - there + 1)) if fits[n]]
            self.assertEqual(least_more(estate, kind, gang, 3), able[0] if able else None)
            seen.add(able[0] if able else None)
            best_fetch(estate, [kind], gang, 3)
            spare_houses(estate, [gang])
            fetched_of(estate, "k")
            self.assertEqual(all_of(estate), before)
        self.assertTrue({None, 0, 1, 2, 3} <= seen)

    def test_nothing_handed_in_is_changed(self):
        estate = estate_of(("a", "x", (4,)))
        kinds = [kind_of("m"), kind_of("l")]
        gangs = [gang_of("z", many=9), gang_of("y")]
        best_fetch(estate, kinds, gangs[0], 0)
        spare_houses(estate, gangs)
        self.assertEqual(kinds, [kind_of("m"), kind_of("l")])
        self.assertEqual(gangs, [gang_of("z", many=9), gang_of("y")])


if __name__ == "__main__":
    unittest.main()
