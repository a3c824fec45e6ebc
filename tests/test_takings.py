"""Takings [13], [14]."""

import copy
import itertools
import random
import unittest

from makers import all_of, book, estate_of, gang_of

from clusterhall.estate import Estate
from clusterhall.placing import placed
from clusterhall.takings import bars_for, place_at, place_but, place_without, shows_taking, taking_for

HOWS = ("any", "apart", "near", "wide")


def full_houses():
    """Houses a and b of room 4 and 6; a is full with p and q, b with r and s, all till 30."""
    estate = estate_of(("a", "x", (4,)), ("b", "y", (6,)))
    book(estate, "p", 0, 30, (("a", 1),))
    book(estate, "q", 0, 30, (("a", 3),))
    book(estate, "r", 2, 30, (("b", 2),))
    book(estate, "s", 3, 30, (("b", 4),))
    return estate


def planned_house():
    """A house of room 4, where p goes till 20, and u, v and w are booked for later."""
    estate = estate_of(("a", "x", (4,)))
    book(estate, "p", 0, 20, (("a", 3),))
    book(estate, "u", 25, 30, (("a", 2),))
    book(estate, "v", 25, 40, (("a", 2),))
    book(estate, "w", 30, 50, (("a", 1),))
    return estate


class PlaceAt(unittest.TestCase):
    def test_told_by_the_site_for_its_stretch(self):
        estate = estate_of(("b", "x", (4,)), ("a", "y", (2,)))
        book(estate, "p", 10, 20, (("a", 1), ("b", 4)))
        gang = gang_of("z", many=3, length=5)
        self.assertEqual(place_at(estate, gang, 5), ("told", (("a", 2), ("b", 1))))
        self.assertEqual(place_at(estate, gang, 6), ("none", (("a", 1), ("b", 0))))
        self.assertEqual(place_at(estate, gang, 19), ("none", (("a", 1), ("b", 0))))
        self.assertEqual(place_at(estate, gang, 20), ("told", (("a", 2), ("b", 1))))
        self.assertEqual(place_at(estate, gang_of("z", length=21), 0), ("told", (("a", 1),)))

    def test_as_it_wants_it(self):
        estate = estate_of(("a", "y", (2,)), ("b", "x", (4,)), ("c", "y", (4,)))
        for how, wanted in (("any", (("a", 2), ("b", 1))), ("near", (("b", 3),)),
                            ("apart", (("a", 1), ("b", 1), ("c", 1)))):
            self.assertEqual(place_at(estate, gang_of("z", many=3, how=how), 0), ("told", wanted))
        self.assertEqual(place_at(estate, gang_of("z", many=3, how="wide"), 0),
                         ("none", (("a", 1), ("b", 1), ("c", 1))))

    def test_no_shut_houses(self):
        estate = estate_of(("a", "x", (4,)), ("b", "x", (4,)))
        estate.set_state("a", "shut")
        self.assertEqual(place_at(estate, gang_of("z", many=4), 0), ("told", (("b", 4),)))
        self.assertEqual(place_at(estate, gang_of("z", many=5), 0), ("none", (("b", 4),)))

    def test_no_houses(self):
        self.assertEqual(place_at(Estate(), gang_of("z"), 0), ("none", ()))

    def test_what_is_told_can_be_booked(self):
        estate = full_houses()
        gang = gang_of("z", many=8)
        estate.book_gang(gang, place_at(estate, gang, 30)[1], 30)
        self.assertEqual(estate.booked_rows()[-1], ("z", 30, 40, (("a", 4), ("b", 4))))


class PlaceWithout(unittest.TestCase):
    def test_no_names(self):
        estate = full_houses()
        for begin in (0, 10, 21, 30):
            for names in ([], ()):
                gang = gang_of("z", many=2)
                self.assertEqual(place_without(estate, names, gang, begin), place_at(estate, gang, begin))
                self.assertEqual(place_but(estate, names, names, gang, begin), place_at(estate, gang, begin))

    def test_lists_and_tuples(self):
        estate = full_houses()
        gang = gang_of("z", many=5)
        for names in (["q", "r"], ["r", "q"], ("q", "r"), ("r", "q")):
            self.assertEqual(place_without(estate, names, gang, 10), ("told", (("a", 3), ("b", 2))))
            self.assertEqual(place_but(estate, names, type(names)(), gang, 10), ("told", (("a", 3), ("b", 2))))
        for names in (["p", "r"], ("p", "r")):
            self.assertEqual(place_without(estate, names, gang, 10), ("none", (("a", 1), ("b", 2))))

    def test_they_are_cut_not_gone(self):
        # Till the begin they stay; so the site is asked from there on, and only there is it theirs no more.
        estate = full_houses()
        self.assertEqual(place_without(estate, ["q"], gang_of("z", many=3, length=19), 1), ("told", (("a", 3),)))
        self.assertEqual(place_without(estate, ["s"], gang_of("z", many=4), 4), ("told", (("b", 4),)))
        self.assertEqual(place_without(estate, ["s"], gang_of("z", many=5), 4), ("none", (("a", 0), ("b", 4))))

    def test_shut_houses_stay_shut(self):
        estate = full_houses()
        estate.set_state("a", "shut")
        self.assertEqual(place_without(estate, ["p", "q", "r"], gang_of("z", many=3), 10), ("none", (("b", 2),)))

    def test_gangs_in_several_houses(self):
        estate = estate_of(("a", "x", (4,)), ("b", "x", (4,)))
        book(estate, "p", 0, 30, (("a", 3), ("b", 1)))
        book(estate, "q", 0, 30, (("a", 1), ("b", 3)))
        self.assertEqual(place_without(estate, ["p"], gang_of("z", many=4), 5), ("told", (("a", 3), ("b", 1))))
        self.assertEqual(place_without(estate, ["q"], gang_of("z", many=4), 5), ("told", (("a", 1), ("b", 3))))

    def test_some_end_ahead_of_the_begin(self):
        estate = full_houses()
        self.assertEqual(place_without(estate, ["p", "q"], gang_of("z", many=10), 30), ("told", (("a", 4), ("b", 6))))

    def test_the_estate_stays_as_it_was(self):
        estate = full_houses()
        before = all_of(estate)
        gang = gang_of("z", many=5)
        for names in ([], ["q", "r"], ["p"], ("p", "q", "r", "s")):
            place_at(estate, gang, 10)
            place_without(estate, names, gang, 10)
            place_but(estate, names, [], gang, 10)
            taking_for(estate, names, gang, 10)
            shows_taking(estate, names, gang, 10)
            bars_for(estate, [], names, gang, 10)
            self.assertEqual(all_of(estate), before)

    def test_kinds(self):
        estate = full_houses()
        for told in (place_at(estate, gang_of("z"), 10), place_without(estate, ["p"], gang_of("z"), 10),
                     place_but(estate, ["p"], [], gang_of("z"), 10)):
            self.assertIs(type(told), tuple)
            self.assertEqual([type(part) for part in told], [str, tuple])


class PlaceBut(unittest.TestCase):
    def test_plans_are_not_booked(self):
        estate = planned_house()
        gang = gang_of("z", many=3, length=20)
        self.assertEqual(place_but(estate, ["p"], ["u"], gang, 10), ("none", (("a", 2),)))
        self.assertEqual(place_but(estate, ["p"], ["v"], gang, 10), ("none", (("a", 2),)))
        self.assertEqual(place_but(estate, ["p"], ["u", "v"], gang, 10), ("told", (("a", 3),)))
        self.assertEqual(place_but(estate, [], ["u", "v"], gang, 10), ("none", (("a", 1),)))
        self.assertEqual(place_but(estate, ["p"], [], gang, 10), ("none", (("a", 0),)))

    def test_plans_that_begin_just_then_and_lie_ahead(self):
        estate = planned_house()
        self.assertEqual(place_but(estate, [], ["u"], gang_of("z", many=2), 25), ("none", (("a", 1),)))
        self.assertEqual(place_but(estate, [], ["u", "w"], gang_of("z", many=2), 25), ("told", (("a", 2),)))
        self.assertEqual(place_but(estate, [], ["w"], gang_of("z", many=4), 40), ("told", (("a", 4),)))
        self.assertEqual(place_but(estate, [], ["u"], gang_of("z", many=4), 40), ("none", (("a", 3),)))

    def test_lists_and_tuples(self):
        estate = planned_house()
        gang = gang_of("z", many=3, length=20)
        for names, plans in itertools.product((["p"], ("p",)), (["u", "v"], ("v", "u"))):
            self.assertEqual(place_but(estate, names, plans, gang, 10), ("told", (("a", 3),)))

    def test_plans_in_several_houses(self):
        estate = estate_of(("a", "x", (2,)), ("b", "x", (2,)))
        book(estate, "p", 20, 30, (("a", 2), ("b", 1)))
        self.assertEqual(place_but(estate, [], ["p"], gang_of("z", many=4), 15), ("told", (("a", 2), ("b", 2))))

    def test_the_estate_stays_as_it_was(self):
        estate = planned_house()
        before = all_of(estate, range(60))
        gang = gang_of("z", many=3, length=20)
        place_but(estate, ["p"], ["u", "v", "w"], gang, 10)
        bars_for(estate, ["p"], ["u", "v", "w"], gang, 10)
        bars_for(estate, [], ["u", "v", "w"], gang, 10)
        self.assertEqual(all_of(estate, range(60)), before)


class TakingFor(unittest.TestCase):
    def test_none_where_not_even_all_do(self):
        estate = full_houses()
        self.assertIsNone(taking_for(estate, ["p", "q", "r", "s"], gang_of("z", many=11), 10))
        self.assertIsNone(taking_for(estate, ["p", "q"], gang_of("z", many=5), 10))
        self.assertIsNone(taking_for(estate, [], gang_of("z"), 10))
        self.assertIsNone(taking_for(estate, (), gang_of("z"), 29))

    def test_an_empty_list_where_none_has_to_leave(self):
        estate = full_houses()
        gang = gang_of("z", many=5)
        for names in ([], ["p", "q", "r", "s"], ("s",)):
            self.assertEqual(taking_for(estate, names, gang, 30), ([], (("a", 4), ("b", 1))))

    def test_the_fewest_first_names(self):
        estate = full_houses()
        gang = gang_of("z", many=1)
        self.assertEqual(taking_for(estate, ["p", "q", "r", "s"], gang, 10), (["p"], (("a", 1),)))
        self.assertEqual(taking_for(estate, ["s", "p", "q", "r"], gang, 10), (["s"], (("b", 1),)))
        gang = gang_of("z", many=4)
        self.assertEqual(taking_for(estate, ["p", "q", "s"], gang, 10), (["p", "q"], (("a", 4),)))
        self.assertEqual(taking_for(estate, ["p", "r", "q", "s"], gang, 10), (["p", "q"], (("a", 4),)))

    def test_all_of_them(self):
        estate = full_houses()
        self.assertEqual(taking_for(estate, ["s", "p", "r", "q"], gang_of("z", many=10), 10),
                         (["s", "p", "r", "q"], (("a", 4), ("b", 6))))

    def test_left_out_from_the_last_to_the_first(self):
        # r, p and s are the first ones; s is needed, then the later one of p and r may stay, of four tasks both.
        estate = full_houses()
        four, five = gang_of("z", many=4), gang_of("z", many=5)
        self.assertEqual(taking_for(estate, ["r", "p", "s", "q"], four, 10), (["s"], (("b", 4),)))
        self.assertEqual(taking_for(estate, ["r", "p", "s", "q"], five, 10), (["r", "s"], (("b", 5),)))
        self.assertEqual(taking_for(estate, ["p", "r", "s", "q"], five, 10), (["p", "s"], (("a", 1), ("b", 4))))

    def test_which_one_is_left_out_first(self):
        # Of p and r either one could stay once q leaves, but not both: the later one of the list stays.
        estate = estate_of(("a", "x", (5,)))
        book(estate, "p", 0, 30, (("a", 1),))
        book(estate, "r", 0, 30, (("a", 1),))
        book(estate, "q", 0, 30, (("a", 3),))
        gang = gang_of("z", many=4)
        self.assertEqual(taking_for(estate, ["p", "r", "q"], gang, 10), (["p", "q"], (("a", 4),)))
        self.assertEqual(taking_for(estate, ["r", "p", "q"], gang, 10), (["r", "q"], (("a", 4),)))
        self.assertEqual(taking_for(estate, ["q", "r", "p"], gang, 10), (["q", "r"], (("a", 4),)))

    def test_the_order_of_those_that_remain(self):
        estate = full_houses()
        for names in itertools.permutations(["p", "q", "r", "s"]):
            some, placing = taking_for(estate, list(names), gang_of("z", many=9, how="any"), 10)
            self.assertEqual(some, [name for name in names if name in some])

    def test_the_placing_is_told_by_those_that_remain(self):
        # With p gone, too, the first tasks would stand in a.
        estate = full_houses()
        self.assertEqual(taking_for(estate, ["p", "s"], gang_of("z", many=3), 10), (["s"], (("b", 3),)))

    def test_near_and_wide(self):
        estate = full_houses()
        self.assertEqual(taking_for(estate, ["p", "r", "q", "s"], gang_of("z", many=3, how="near"), 10),
                         (["q"], (("a", 3),)))
        self.assertEqual(taking_for(estate, ["p", "q", "s", "r"], gang_of("z", many=2, how="wide"), 10),
                         (["p", "s"], (("a", 1), ("b", 1))))
        self.assertIsNone(taking_for(estate, ["p", "q", "s", "r"], gang_of("z", many=3, how="wide"), 10))

    def test_tuples_and_what_was_told(self):
        estate = full_houses()
        gang = gang_of("z", many=5)
        told = taking_for(estate, ("p", "r", "s", "q"), gang, 10)
        self.assertEqual(told, (["p", "s"], (("a", 1), ("b", 4))))
        self.assertEqual(taking_for(estate, told[0], gang, 10), told)
        self.assertEqual(place_without(estate, told[0], gang, 10), ("told", told[1]))

    def test_its_list_is_its_own(self):
        estate = full_houses()
        for many in (1, 5, 10):
            names = ["s", "p", "r", "q"]
            some, placing = taking_for(estate, names, gang_of("z", many=many), 10)
            self.assertIs(type(some), list)
            self.assertIs(type(placing), tuple)
            self.assertIsNot(some, names)
            some.clear()
            self.assertEqual(names, ["s", "p", "r", "q"])
        free, free_again = [taking_for(estate, [], gang_of("z"), 30)[0] for turn in range(2)]
        self.assertIsNot(free, free_again)


class ShowsTaking(unittest.TestCase):
    def setUp(self):
        self.estate = full_houses()

    def test_what_was_told(self):
        for many in range(1, 11):
            gang = gang_of("z", many=many)
            some = taking_for(self.estate, ["p", "q", "r", "s"], gang, 10)[0]
            self.assertIs(shows_taking(self.estate, some, gang, 10), True)
            self.assertIs(shows_taking(self.estate, tuple(some[::-1]), gang, 10), True)

    def test_one_more_and_one_less(self):
        for many in range(1, 11):
            gang = gang_of("z", many=many)
            some = taking_for(self.estate, ["p", "q", "r", "s"], gang, 10)[0]
            for name in "pqrs":
                if name in some:
                    fewer = [other for other in some if other != name]
                    self.assertIs(shows_taking(self.estate, fewer, gang, 10), False, (many, fewer))
                else:
                    self.assertIs(shows_taking(self.estate, some + [name], gang, 10), False, (many, some, name))
                    self.assertIs(shows_taking(self.estate, [name] + some, gang, 10), False, (many, some, name))

    def test_others_than_told(self):
        gang = gang_of("z", many=4)
        self.assertIs(shows_taking(self.estate, ["p", "q"], gang, 10), True)
        self.assertIs(shows_taking(self.estate, ["s"], gang, 10), True)
        self.assertIs(shows_taking(self.estate, ["q", "r"], gang, 10), True)
        self.assertIs(shows_taking(self.estate, ["p", "r"], gang, 10), False)
        self.assertIs(shows_taking(self.estate, ["q", "s"], gang, 10), False)

    def test_no_names(self):
        self.assertIs(shows_taking(self.estate, [], gang_of("z"), 10), False)
        self.assertIs(shows_taking(self.estate, [], gang_of("z"), 30), True)
        self.assertIs(shows_taking(self.estate, (), gang_of("z"), 30), True)
        self.assertIs(shows_taking(self.estate, ["p"], gang_of("z"), 30), False)


class BarsFor(unittest.TestCase):
    def test_none_where_not_even_all_plans_do(self):
        estate = planned_house()
        gang = gang_of("z", many=3, length=20)
        self.assertIsNone(bars_for(estate, [], ["u", "v", "w"], gang, 10))
        self.assertIsNone(bars_for(estate, ["p"], ["u", "w"], gang, 10))
        self.assertIsNone(bars_for(estate, ["p"], [], gang, 10))
        self.assertIsNone(bars_for(estate, (), (), gang, 10))

    def test_an_empty_list_where_none_bars(self):
        estate = planned_house()
        self.assertEqual(bars_for(estate, ["p"], ["u", "v", "w"], gang_of("z", many=4), 10), [])
        self.assertEqual(bars_for(estate, [], [], gang_of("z", many=1), 10), [])
        self.assertEqual(bars_for(estate, (), ("u",), gang_of("z", many=1), 10), [])

    def test_the_fewest_first_then_left_out_from_the_last(self):
        estate = planned_house()
        gang = gang_of("z", many=3, length=20)
        self.assertEqual(bars_for(estate, ["p"], ["u", "v", "w"], gang, 10), ["u", "v"])
        self.assertEqual(bars_for(estate, ["p"], ["w", "v", "u"], gang, 10), ["v", "u"])
        self.assertEqual(bars_for(estate, ["p"], ["v", "w", "u"], gang, 10), ["v", "u"])
        gang = gang_of("z", many=2, length=20)
        self.assertEqual(bars_for(estate, ["p"], ["u", "v", "w"], gang, 10), ["u"])
        self.assertEqual(bars_for(estate, ["p"], ["w", "v", "u"], gang, 10), ["v"])

    def test_all_plans_and_tuples(self):
        estate = planned_house()
        gang = gang_of("z", many=4, length=25)
        self.assertEqual(bars_for(estate, ("p",), ("w", "u", "v"), gang, 10), ["w", "u", "v"])
        self.assertIsNone(bars_for(estate, ("p",), ("w", "u"), gang, 10))

    def test_which_one_is_left_out_first(self):
        estate = estate_of(("a", "x", (5,)))
        for name, n in (("u", 1), ("v", 1), ("w", 3)):
            book(estate, name, 20, 30, (("a", n),))
        gang = gang_of("z", many=4)
        self.assertEqual(bars_for(estate, [], ["u", "v", "w"], gang, 15), ["u", "w"])
        self.assertEqual(bars_for(estate, [], ["v", "u", "w"], gang, 15), ["v", "w"])

    def test_its_list_is_its_own(self):
        estate = planned_house()
        plans = ["w", "u", "v"]
        names = ["p"]
        told = bars_for(estate, names, plans, gang_of("z", many=4, length=25), 10)
        self.assertIs(type(told), list)
        self.assertIsNot(told, plans)
        told.clear()
        self.assertEqual((names, plans), (["p"], ["w", "u", "v"]))
        empty = [bars_for(estate, names, [], gang_of("z", many=4), 10) for turn in range(2)]
        self.assertEqual(empty, [[], []])
        self.assertIsNot(empty[0], empty[1])


class PlainTakings:
    """What [13] and [14] say, by estates that are built anew: slow, but plain to see."""

    def __init__(self, houses, booked):
        self.houses = houses     # (name, yard, room)
        self.booked = booked     # name: (begin, end, placing)

    def estate(self, names=(), plans=(), time=None):
        estate = estate_of(*self.houses)
        for name, (begin, end, placing) in self.booked.items():
            end = min(end, time) if name in names else end
            if name not in plans and begin < end:
                book(estate, name, begin, end, placing)
        return estate

    def place(self, names, plans, gang, begin):
        site = self.estate(names, plans, begin).site_for(begin, begin + gang[6])
        return placed(site, gang[3], gang[4], gang[5])

    def needed(self, names, does):
        prefixes = [names[:n] for n in range(len(names) + 1) if does(names[:n])]
        if not prefixes:
            return None
        kept = list(prefixes[0])
        for at in reversed(range(len(kept))):
            if does(kept[:at] + kept[at + 1:]):
                del kept[at]
        return kept


class AgainstPlainTakings(unittest.TestCase):
    def some_houses(self, chance):
        """Houses, and gangs that go from ahead of 10 on, or are planned for later, as far as there is room."""
        houses = [(name, chance.choice("xy"), (chance.randrange(2, 6),)) for name in "abc"]
        estate = estate_of(*houses)
        booked = {}
        for name in "pqrstuvw":
            begin = chance.randrange(0, 10) if name < "t" else chance.randrange(13, 25)
            gang = gang_of(name, many=chance.randrange(1, 5), length=chance.randrange(5, 20))
            word, placing = place_at(estate, gang, begin)
            if word == "told":
                estate.book_gang(gang, placing, begin)
                booked[name] = (begin, begin + gang[6], placing)
        return PlainTakings(houses, booked), estate

    def test_many_estates(self):
        chance = random.Random(4)
        seen = set()
        for turn in range(400):
            plain, estate = self.some_houses(chance)
            names = [name for name in chance.sample("pqrs", 4) if name in plain.booked]
            plans = [name for name in chance.sample("tuvw", 4) if name in plain.booked]
            gang = gang_of("z", many=chance.randrange(1, 9), how=chance.choice(HOWS), length=chance.randrange(1, 20))
            self.assert_alike(plain, estate, names, plans, gang, chance.randrange(10, 14))
            seen.add(str(taking_for(estate, names, gang, 12))[:3])
        self.assertTrue({"Non", "([]", "(['"} <= seen)

    def assert_alike(self, plain, estate, names, plans, gang, begin):
        handed = copy.deepcopy((names, plans, gang))
        before = all_of(estate)
        self.assertEqual(place_at(estate, gang, begin), plain.place([], [], gang, begin))
        self.assertEqual(place_without(estate, names, gang, begin), plain.place(names, [], gang, begin))
        self.assertEqual(place_but(estate, names, plans, gang, begin), plain.place(names, plans, gang, begin))
        some = plain.needed(names, lambda these: plain.place(these, [], gang, begin)[0] == "told")
        told = taking_for(estate, names, gang, begin)
        if some is None:
            self.assertIsNone(told)
        else:
            self.assertEqual(told, (some, plain.place(some, [], gang, begin)[1]))
            self.assertIs(shows_taking(estate, some, gang, begin), True)
        self.assertEqual(bars_for(estate, names, plans, gang, begin),
                         plain.needed(plans, lambda these: plain.place(names, these, gang, begin)[0] == "told"))
        self.assertEqual((names, plans, gang), handed)
        self.assertEqual(all_of(estate), before)

    def test_shown_just_where_none_could_be_left_out(self):
        chance = random.Random(3)
        seen = set()
        for turn in range(100):
            plain, estate = self.some_houses(chance)
            gang = gang_of("z", many=chance.randrange(1, 9), how=chance.choice(HOWS))
            there = [name for name in "pqrs" if name in plain.booked]
            for size in range(len(there) + 1):
                for names in itertools.combinations(there, size):
                    fewer = [names[:at] + names[at + 1:] for at in range(size)]
                    wanted = (plain.place(names, [], gang, 12)[0] == "told"
                              and all(plain.place(some, [], gang, 12)[0] == "none" for some in fewer))
                    self.assertIs(shows_taking(estate, names, gang, 12), wanted)
                    seen.add(wanted)
        self.assertEqual(seen, {True, False})


if __name__ == "__main__":
    unittest.main()
