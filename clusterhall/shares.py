"""Shares: which gangs are a guild's own by its due, which ones are lent, and who may take from whom."""

from clusterhall.amounts import amount_fits, amount_sum, nothing_of
from clusterhall.gangs import guild_of, in_order, name_of, rank_of, whole_of

BY_RANK = "rank"
BY_SHARE = "share"


def parted_gangs(due, rows):
    """The own and the lent gangs among rows of one guild, each in order, and what the own ones come to."""
    own = []
    lent = []
    load = nothing_of(len(due))
    for gang in in_order(rows):
        more = amount_sum(load, whole_of(gang))
        if amount_fits(more, due):
            own.append(gang)
            load = more
        else:
            lent.append(gang)
    return (own, lent, load)


def parted(due, rows):
    """The names of the own and of the lent gangs among rows of one guild, each in order."""
    own, lent, load = parted_gangs(due, rows)
    return ([name_of(gang) for gang in own], [name_of(gang) for gang in lent])


def owed(due, rows, gang):
    """Whether a gang fits in its guild's due together with all own ones among the guild's rows."""
    own, lent, load = parted_gangs(due, rows)
    return amount_fits(amount_sum(load, whole_of(gang)), due)


def own_with(due, rows, gang):
    """Whether a gang would be own among its guild's rows, were it the last of its rank."""
    number = max([row[1] for row in rows], default=0) + 1
    own, lent = parted(due, [*rows, (gang, number)])
    return name_of(gang) in own


def rows_of_guild(rows, guild):
    """The rows of one guild."""
    return [(gang, number) for gang, number in rows if guild_of(gang) == guild]


def lent_among(dues, rows):
    """A dict with the names of all lent gangs among rows of any guilds."""
    lent = {}
    for guild in sorted({guild_of(gang) for gang, number in rows}):
        for name in parted(dues[guild], rows_of_guild(rows, guild))[1]:
            lent[name] = True
    return lent


def ground_in_guild(lesser, is_lent, is_own_with):
    """The ground to take from one of the same guild, or None."""
    return BY_RANK if lesser and (is_lent or is_own_with) else None


def ground_beyond_guild(lesser, is_lent, is_owed):
    """The ground to take from one of another guild, or None."""
    if is_lent and is_owed:
        return BY_SHARE
    return BY_RANK if is_lent and lesser else None


def may_take(dues, rows, names, gang):
    """Whom of the rows with these names a gang may take from: pairs (name, ground), the least to be kept first."""
    guild = guild_of(gang)
    lent = lent_among(dues, rows)
    is_owed = owed(dues[guild], rows_of_guild(rows, guild), gang)
    is_own_with = own_with(dues[guild], rows_of_guild(rows, guild), gang)
    pairs = []
    for other in in_order(rows)[::-1]:
        name = name_of(other)
        lesser = rank_of(other) < rank_of(gang)
        if guild_of(other) == guild:
            ground = ground_in_guild(lesser, name in lent, is_own_with)
        else:
            ground = ground_beyond_guild(lesser, name in lent, is_owed)
        if name in names and ground is not None:
            pairs.append((name, ground))
    return pairs
