"""Shares [9]."""

import copy
import itertools
import random
import unittest

from makers import gang_of

from clusterhall.shares import may_take, owed, own_with, parted


def rows_of(*gangs):
    """Rows of gangs, numbered from 1 on as they are handed in."""
    return [(gang, number) for number, gang in enumerate(gangs, 1)]


class Parted(unittest.TestCase):
    def test_no_rows(self):
        self.assertEqual(parted((5, 5), []), ([], []))

    def test_just_what_is_left_of_the_due(self):
        rows = rows_of(gang_of("a", want=(2, 1)), gang_of("b", want=(3, 4)))
        self.assertEqual(parted((5, 5), rows), (["a", "b"], []))

    def test_one_more_in_one_ware(self):
        rows = rows_of(gang_of("a", want=(2, 1)), gang_of("b", want=(3, 4)))
        self.assertEqual(parted((4, 5), rows), (["a"], ["b"]))
        self.assertEqual(parted((5, 4), rows), (["a"], ["b"]))

    def test_all_tasks_count(self):
        rows = rows_of(gang_of("a", many=3, want=(2,)))
        self.assertEqual(parted((6,), rows), (["a"], []))
        self.assertEqual(parted((5,), rows), ([], ["a"]))

    def test_a_lent_one_with_own_ones_behind_it(self):
        rows = rows_of(gang_of("a", want=(2,)), gang_of("b", want=(9,)), gang_of("c", want=(2,)),
                       gang_of("d", want=(3,)), gang_of("e", want=(1,)), gang_of("f", want=(1,)))
        self.assertEqual(parted((5,), rows), (["a", "c", "e"], ["b", "d", "f"]))

    def test_in_order_not_as_handed_in(self):
        rows = [(gang_of("a", rank=1, want=(3,)), 5), (gang_of("b", rank=2, want=(3,)), 9),
                (gang_of("c", rank=1, want=(3,)), 4), (gang_of("d", rank=0, want=(1,)), 1)]
        self.assertEqual(parted((6,), rows), (["b", "c"], ["a", "d"]))
        self.assertEqual(parted((7,), rows), (["b", "c", "d"], ["a"]))
        self.assertEqual(parted((2,), rows), (["d"], ["b", "c", "a"]))

    def test_a_due_of_noughts(self):
        rows = rows_of(gang_of("a", want=(1, 0)), gang_of("b", want=(0, 1)))
        self.assertEqual(parted((0, 0), rows), ([], ["a", "b"]))
        self.assertEqual(parted((0, 1), rows), (["b"], ["a"]))

    def test_kinds(self):
        for due, rows in (((5,), []), ((1,), rows_of(gang_of("a"), gang_of("b")))):
            told = parted(due, rows)
            self.assertIs(type(told), tuple)
            self.assertEqual([type(names) for names in told], [list, list])
            self.assertIsNot(told[0], told[1])
            self.assertEqual(len({id(names) for names in (*told, *parted(due, rows))}), 4)

    def test_a_told_list_is_the_askers_own(self):
        rows = rows_of(gang_of("a"), gang_of("b"))
        own, lent = parted((1,), rows)
        own.append("z")
        self.assertEqual((own, lent), (["a", "z"], ["b"]))
        self.assertEqual(parted((1,), rows), (["a"], ["b"]))


class OwedAndOwnWith(unittest.TestCase):
    def test_alone(self):
        gang = gang_of("z", many=2, want=(2, 1))
        for asked in (owed, own_with):
            self.assertIs(asked((4, 2), [], gang), True)
            self.assertIs(asked((3, 2), [], gang), False)
            self.assertIs(asked((4, 1), [], gang), False)
            self.assertIs(asked((0, 0), [], gang), False)

    def test_beside_own_ones_of_its_rank(self):
        rows = rows_of(gang_of("a", want=(2,)), gang_of("b", want=(1,)))
        for asked in (owed, own_with):
            self.assertIs(asked((5,), rows, gang_of("z", want=(2,))), True)
            self.assertIs(asked((5,), rows, gang_of("z", want=(3,))), False)

    def test_lent_ones_do_not_count(self):
        rows = rows_of(gang_of("a", want=(3,)), gang_of("b", want=(9,)))
        for asked in (owed, own_with):
            self.assertIs(asked((5,), rows, gang_of("z", want=(2,))), True)
            self.assertIs(asked((5,), rows, gang_of("z", want=(3,))), False)

    def test_they_part_where_own_ones_are_of_a_lesser_rank(self):
        rows = rows_of(gang_of("a", rank=3, want=(3,)), gang_of("b", rank=1, want=(2,)))
        gang = gang_of("z", rank=2, want=(2,))
        self.assertIs(owed((5,), rows, gang), False)
        self.assertIs(own_with((5,), rows, gang), True)
        self.assertIs(own_with((5,), rows, gang_of("z", rank=2, want=(3,))), False)
        self.assertIs(own_with((5,), rows, gang_of("z", rank=4, want=(5,))), True)

    def test_owed_ones_are_own_with(self):
        chance = random.Random(9)
        for turn in range(300):
            rows = some_rows(chance, ["g"])
            due = (chance.randrange(9), chance.randrange(9))
            gang = some_gang(chance, "z", ["g"])
            if owed(due, rows, gang):
                self.assertIs(own_with(due, rows, gang), True, (due, rows, gang))

    def test_its_number_is_above_all_of_theirs(self):
        gang = gang_of("z", rank=2, want=(2,))
        for numbers in ((1, 2), (900, 5), (10 ** 9, 0)):
            rows = list(zip([gang_of("a", rank=2, want=(3,)), gang_of("b", rank=2, want=(2,))], numbers))
            self.assertIs(own_with((5,), rows, gang), False, numbers)
            self.assertIs(own_with((7,), rows, gang), True, numbers)

    def test_nothing_handed_in_is_changed(self):
        rows = rows_of(gang_of("b", rank=1), gang_of("a", rank=2))
        before = copy.deepcopy(rows)
        parted((1,), rows)
        owed((1,), rows, gang_of("z"))
        own_with((1,), rows, gang_of("z"))
        self.assertEqual(rows, before)


class OwnGuild(unittest.TestCase):
    """Whom a gang may take from in its own guild g, whose due is 4."""

    # b and d are own, a, c and e lent.
    ROWS = rows_of(gang_of("a", rank=1, want=(2,)), gang_of("b", rank=3, want=(3,)), gang_of("c", rank=2, want=(2,)),
                   gang_of("d", rank=1, want=(1,)), gang_of("e", rank=3, want=(2,)))
    NAMES = ["a", "b", "c", "d", "e"]

    def taken(self, rank, want):
        return may_take({"g": (4,)}, self.ROWS, self.NAMES, gang_of("z", rank=rank, want=(want,)))

    def test_who_is_own(self):
        self.assertEqual(parted((4,), self.ROWS), (["b", "d"], ["e", "c", "a"]))

    def test_no_one_of_equal_or_higher_rank(self):
        self.assertEqual(self.taken(0, 1), [])
        self.assertEqual(self.taken(1, 1), [])

    def test_lent_ones_of_a_lesser_rank(self):
        self.assertEqual(self.taken(2, 2), [("a", "rank")])
        self.assertEqual(self.taken(3, 2), [("a", "rank"), ("c", "rank")])
        self.assertEqual(self.taken(4, 5), [("a", "rank"), ("c", "rank"), ("e", "rank")])

    def test_own_ones_too_where_it_would_be_own(self):
        self.assertEqual(self.taken(2, 1), [("d", "rank"), ("a", "rank")])
        self.assertEqual(self.taken(3, 1), [("d", "rank"), ("a", "rank"), ("c", "rank")])
        self.assertEqual(self.taken(4, 4), [("d", "rank"), ("a", "rank"), ("c", "rank"), ("e", "rank"), ("b", "rank")])

    def test_an_owed_one_takes_by_rank_too(self):
        rows = rows_of(gang_of("a", want=(9,)), gang_of("b", want=(1,)))
        gang = gang_of("z", rank=1, want=(3,))
        self.assertIs(owed((4,), rows, gang), True)
        self.assertEqual(may_take({"g": (4,)}, rows, ["a", "b"], gang), [("b", "rank"), ("a", "rank")])
        self.assertEqual(may_take({"g": (4,)}, rows, ["a", "b"], gang_of("z", rank=0, want=(3,))), [])


class OtherGuilds(unittest.TestCase):
    """Whom a gang of the guild g may take from in the guild h, whose due is 4."""

    # b and d are own, a, c and e lent.
    ROWS = rows_of(*[gang_of(name, guild="h", rank=rank, want=(want,))
                     for name, rank, want in (("a", 1, 2), ("b", 3, 3), ("c", 2, 2), ("d", 1, 1), ("e", 3, 2))])
    NAMES = ["a", "b", "c", "d", "e"]

    def taken(self, due, rank, want):
        dues = {"g": (due,), "h": (4,)}
        return may_take(dues, self.ROWS, self.NAMES, gang_of("z", rank=rank, want=(want,)))

    def test_lent_ones_of_any_rank_where_it_is_owed(self):
        for rank in range(10):
            self.assertEqual(self.taken(5, rank, 5), [("a", "share"), ("c", "share"), ("e", "share")])

    def test_lent_ones_of_a_lesser_rank_where_it_is_not(self):
        self.assertEqual(self.taken(5, 0, 6), [])
        self.assertEqual(self.taken(5, 1, 6), [])
        self.assertEqual(self.taken(5, 2, 6), [("a", "rank")])
        self.assertEqual(self.taken(5, 3, 6), [("a", "rank"), ("c", "rank")])
        self.assertEqual(self.taken(5, 4, 6), [("a", "rank"), ("c", "rank"), ("e", "rank")])

    def test_never_own_ones(self):
        self.assertEqual(self.taken(9, 9, 1), [("a", "share"), ("c", "share"), ("e", "share")])
        self.assertEqual(self.taken(0, 9, 1), [("a", "rank"), ("c", "rank"), ("e", "rank")])

    def test_owed_by_the_rows_of_its_guild_alone(self):
        rows = self.ROWS + [(gang_of("y", rank=0, want=(2,)), 6)]
        dues = {"g": (5,), "h": (4,)}
        names = ["a", "c", "y"]
        self.assertEqual(may_take(dues, rows, names, gang_of("z", rank=0, want=(3,))), [("a", "share"), ("c", "share")])
        self.assertEqual(may_take(dues, rows, names, gang_of("z", rank=0, want=(4,))), [])

    def test_own_with_is_not_owed(self):
        rows = self.ROWS + [(gang_of("y", rank=0, want=(3,)), 6)]
        dues = {"g": (5,), "h": (4,)}
        gang = gang_of("z", rank=2, want=(5,))
        self.assertIs(own_with((5,), rows[-1:], gang), True)
        self.assertIs(owed((5,), rows[-1:], gang), False)
        self.assertEqual(may_take(dues, rows, self.NAMES + ["y"], gang), [("y", "rank"), ("a", "rank")])

    def test_each_guild_by_its_own_due(self):
        rows = rows_of(gang_of("a", guild="h", want=(3,)), gang_of("b", guild="i", want=(3,)),
                       gang_of("c", guild="h", want=(3,)), gang_of("d", guild="i", want=(3,)))
        gang = gang_of("z", want=(1,))
        names = ["a", "b", "c", "d"]
        self.assertEqual(may_take({"g": (1,), "h": (3,), "i": (5,)}, rows, names, gang),
                         [("d", "share"), ("c", "share")])
        self.assertEqual(may_take({"g": (1,), "h": (6,), "i": (2,)}, rows, names, gang),
                         [("d", "share"), ("b", "share")])

    def test_dues_of_noughts(self):
        rows = rows_of(gang_of("a", guild="h", rank=1), gang_of("b", guild="h", rank=2), gang_of("c", rank=1))
        dues = {"g": (0,), "h": (0,)}
        self.assertEqual(may_take(dues, rows, ["a", "b", "c"], gang_of("z", rank=2)), [("c", "rank"), ("a", "rank")])
        self.assertEqual(may_take(dues, rows, ["a", "b", "c"], gang_of("z", rank=0)), [])
        dues = {"g": (2,), "h": (0,)}
        self.assertEqual(may_take(dues, rows, ["a", "b", "c"], gang_of("z", rank=0)), [("a", "share"), ("b", "share")])


class Names(unittest.TestCase):
    ROWS = rows_of(*[gang_of(name, guild="h", rank=1, want=(2,)) for name in "abcd"])
    DUES = {"g": (9,), "h": (4,)}

    def taken(self, names):
        return may_take(self.DUES, self.ROWS, names, gang_of("z"))

    def test_names_that_are_left_out(self):
        self.assertEqual(self.taken(["a", "b", "c", "d"]), [("d", "share"), ("c", "share")])
        self.assertEqual(self.taken(["c"]), [("c", "share")])
        self.assertEqual(self.taken([]), [])

    def test_lent_and_own_by_all_rows(self):
        # Among the names alone c and d would fit in the due, and a and b are own beside whomever is named.
        self.assertEqual(self.taken(["c", "d"]), [("d", "share"), ("c", "share")])
        self.assertEqual(self.taken(["a", "b"]), [])
        self.assertEqual(self.taken(["b", "d"]), [("d", "share")])

    def test_its_own_guild_by_all_rows_too(self):
        rows = rows_of(gang_of("a", rank=2, want=(2,)), gang_of("b", rank=1, want=(2,)), gang_of("c", rank=1))
        gang = gang_of("z", rank=3, want=(5,))
        self.assertEqual(may_take({"g": (4,)}, rows, ["c"], gang), [("c", "rank")])
        self.assertEqual(may_take({"g": (4,)}, rows, ["b"], gang), [])
        self.assertEqual(may_take({"g": (5,)}, rows, ["b"], gang), [("b", "rank")])

    def test_owed_by_all_rows(self):
        rows = self.ROWS + [(gang_of("y", rank=0, want=(9,)), 9)]
        self.assertEqual(may_take(self.DUES, rows, ["c", "d"], gang_of("z")), [])

    def test_names_of_no_row(self):
        self.assertEqual(self.taken(["x", "dd", "", "z", "d", "g", "h"]), [("d", "share")])

    def test_names_twice_and_in_any_order(self):
        for names in itertools.permutations(["a", "c", "d", "d", "c"]):
            self.assertEqual(self.taken(list(names)), [("d", "share"), ("c", "share")])


class OrderOfTakings(unittest.TestCase):
    def test_by_rising_rank_of_one_rank_by_falling_number(self):
        rows = [(gang_of("a", guild="h", rank=2), 4), (gang_of("b", guild="i", rank=1), 3),
                (gang_of("c", guild="h", rank=1), 7), (gang_of("d", guild="i", rank=2), 8),
                (gang_of("e", rank=1), 5), (gang_of("f", guild="h", rank=0), 1)]
        dues = {"g": (3,), "h": (0,), "i": (0,)}
        self.assertEqual(may_take(dues, rows, ["a", "b", "c", "d", "e", "f"], gang_of("z", rank=9)),
                         [("f", "share"), ("c", "share"), ("e", "rank"), ("b", "share"), ("d", "share"),
                          ("a", "share")])

    def test_no_rows(self):
        self.assertEqual(may_take({"g": (3,)}, [], [], gang_of("z")), [])
        self.assertEqual(may_take({"g": (3,)}, [], ["a"], gang_of("z", rank=9)), [])

    def test_kinds(self):
        rows = rows_of(gang_of("a", guild="h"), gang_of("b", guild="h"))
        told = may_take({"g": (3,), "h": (0,)}, rows, ["a", "b"], gang_of("z"))
        self.assertIs(type(told), list)
        self.assertEqual([type(pair) for pair in told], [tuple, tuple])
        self.assertIsNot(told, may_take({"g": (3,), "h": (0,)}, rows, ["a", "b"], gang_of("z")))
        self.assertIsNot(may_take({"g": (3,)}, [], [], gang_of("z")), may_take({"g": (3,)}, [], [], gang_of("z")))

    def test_nothing_handed_in_is_changed(self):
        rows = rows_of(gang_of("b", guild="h", rank=1), gang_of("a", rank=2), gang_of("c", guild="h"))
        handed = ({"g": (3,), "h": (0,), "x": (7,)}, rows, ["c", "a", "no", "b"], gang_of("z", rank=5))
        before = copy.deepcopy(handed)
        told = may_take(*handed)
        self.assertEqual(handed, before)
        told.append(("z", "rank"))
        self.assertEqual(handed, before)
        self.assertEqual(may_take(*handed), told[:-1])


def some_gang(chance, name, guilds):
    want = chance.choice([(0, 1), (1, 0), (1, 1), (2, 1), (1, 3), (4, 0)])
    return gang_of(name, chance.choice(guilds), chance.randrange(4), chance.randrange(1, 4), want)


def some_rows(chance, guilds):
    gangs = [some_gang(chance, name, guilds) for name in "abcdefgh"[:chance.randrange(9)]]
    return list(zip(gangs, chance.sample(range(1, 30), len(gangs))))


def plain_own(due, rows):
    """The names of the own ones, by the words of [9]."""
    left = list(due)
    own = []
    for (name, guild, rank, many, want, how, length), number in sorted(rows, key=lambda row: (-row[0][2], row[1])):
        if all(many * need <= have for need, have in zip(want, left)):
            left = [have - many * need for need, have in zip(want, left)]
            own.append(name)
    return own, left


def plain_may_take(dues, rows, names, gang):
    """may_take, by the words of [9]."""
    guild, rank = gang[1], gang[2]
    own = {name for of in dues for name in plain_own(dues[of], [row for row in rows if row[0][1] == of])[0]}
    mine = [row for row in rows if row[0][1] == guild]
    is_owed = all(gang[3] * need <= have for need, have in zip(gang[4], plain_own(dues[guild], mine)[1]))
    is_own_with = gang[0] in plain_own(dues[guild], mine + [(gang, 99)])[0]
    told = []
    for other, number in sorted(rows, key=lambda row: (row[0][2], -row[1])):
        if other[0] not in names:
            continue
        lesser, lent = other[2] < rank, other[0] not in own
        if other[1] == guild and lesser and (lent or is_own_with):
            told.append((other[0], "rank"))
        if other[1] != guild and lent and (is_owed or lesser):
            told.append((other[0], "share" if is_owed else "rank"))
    return told


class AgainstPlainShares(unittest.TestCase):
    def test_many_rows(self):
        chance = random.Random(8)
        seen = set()
        for turn in range(2000):
            rows = some_rows(chance, ["g", "h", "i"])
            dues = {guild: (chance.randrange(12), chance.randrange(12)) for guild in "ghi"}
            names = chance.sample("abcdefghxy", chance.randrange(11))
            gang = some_gang(chance, "z", ["g", "h", "i"])
            told = may_take(dues, rows, names, gang)
            self.assertEqual(told, plain_may_take(dues, rows, names, gang), (dues, rows, names, gang))
            seen.update(ground for name, ground in told)
        self.assertEqual(seen, {"rank", "share"})

    def test_many_partings(self):
        chance = random.Random(7)
        for turn in range(500):
            rows = some_rows(chance, ["g"])
            due = (chance.randrange(15), chance.randrange(15))
            own, lent = parted(due, rows)
            self.assertEqual(own, plain_own(due, rows)[0])
            order = [gang[0] for gang, number in sorted(rows, key=lambda row: (-row[0][2], row[1]))]
            self.assertEqual(lent, [name for name in order if name not in own])


if __name__ == "__main__":
    unittest.main()
