"""Placing tasks of one want in a site: a list of (house, yard, left)."""

from clusterhall.amounts import most_times

APART = "apart"
NEAR = "near"
WIDE = "wide"


def counts_of(site, many, want, how):
    """How many tasks each house could take by itself: pairs (house, n) by rising houses."""
    most = min(many, 1) if how in (APART, WIDE) else many
    return tuple((house, min(most, most_times(want, left))) for house, yard, left in sorted(site))


def placed(site, many, want, how):
    """The pair ("told", placing), or ("none", counts) where there is no placing."""
    counts = counts_of(site, many, want, how)
    placing = filled(many, pairs_to_fill(site, many, how, counts))
    if placing is None:
        return ("none", counts)
    return ("told", placing)


def shows_placed(site, many, want, how, placing):
    """Whether any pairs (house, n) are a placing."""
    counts = dict(counts_of(site, many, want, how))
    return (rises([house for house, n in placing])
            and all(1 <= n <= counts.get(house, 0) for house, n in placing)
            and tasks_in(placing) == many
            and keeps_yards(site, how, placing))


def shows_none(site, many, want, how, counts):
    """Whether any pairs (house, n) are the counts of the site, and by them there is no placing."""
    return counts == counts_of(site, many, want, how) and most_by_counts(site, how, counts) < many


def tasks_in(pairs):
    """How many tasks pairs (house, n) have together."""
    return sum(n for house, n in pairs)


def rises(names):
    """Whether each name is above the one ahead of it."""
    return all(one < other for one, other in zip(names, names[1:]))


def yard_of_houses(site):
    """A dict from the houses of a site to their yards."""
    return {house: yard for house, yard, left in site}


def pairs_by_yards(site, counts):
    """The counts of each yard by themselves, by rising yards."""
    yards = yard_of_houses(site)
    rising = sorted({yard for house, yard, left in site})
    return [[(house, n) for house, n in counts if yards[house] == yard] for yard in rising]


def pairs_to_fill(site, many, how, counts):
    """The counts of the houses that may be used together, in the order in which they are to be filled."""
    if how == NEAR:
        return first_yard_for(many, pairs_by_yards(site, counts))
    if how == WIDE:
        return first_of_yards(pairs_by_yards(site, counts))
    return list(counts)


def first_yard_for(many, groups):
    """The first of the groups of counts that can take all tasks; an empty one where none can."""
    for pairs in groups:
        if tasks_in(pairs) >= many:
            return pairs
    return []


def first_of_yards(groups):
    """Of each group of counts the first pair that can take a task, where there is one."""
    firsts = []
    for pairs in groups:
        able = [(house, n) for house, n in pairs if n > 0]
        firsts += able[:1]
    return firsts


def filled(many, pairs):
    """The placing by which each house in turn takes as many as it can; None where they can't take all."""
    placing = []
    to_place = many
    for house, n in pairs:
        here = min(n, to_place)
        if here > 0:
            placing.append((house, here))
            to_place -= here
    if to_place > 0:
        return None
    # Houses may be filled in the order of their yards, but a placing names them in their own order.
    return tuple(sorted(placing))


def keeps_yards(site, how, placing):
    """Whether the houses of a placing, all of the site, stand in such yards as how wants."""
    yards = yard_of_houses(site)
    used = [yards[house] for house, n in placing]
    if how == NEAR:
        return len(set(used)) <= 1
    if how == WIDE:
        return len(set(used)) == len(used)
    return True


def most_by_counts(site, how, counts):
    """How many tasks could be placed together by the counts of a site."""
    if how == NEAR:
        return max([tasks_in(pairs) for pairs in pairs_by_yards(site, counts)], default=0)
    if how == WIDE:
        return len([pairs for pairs in pairs_by_yards(site, counts) if tasks_in(pairs) > 0])
    return tasks_in(counts)
