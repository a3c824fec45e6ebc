"""Gangs: tuples (name, guild, rank, many, want, how, length); and rows of them: pairs (gang, number)."""

from clusterhall.amounts import amount_times


def name_of(gang):
    """The name of a gang."""
    return gang[0]


def guild_of(gang):
    """The guild of a gang."""
    return gang[1]


def rank_of(gang):
    """The rank of a gang."""
    return gang[2]


def want_of(gang):
    """The amount that each task of a gang wants."""
    return gang[4]


def length_of(gang):
    """How long a gang goes."""
    return gang[6]


def whole_of(gang):
    """The amount that all tasks of a gang want together."""
    name, guild, rank, many, want, how, length = gang
    return amount_times(want, many)


def place_in_order(row):
    """What rows are sorted by: falling rank, then rising number."""
    gang, number = row
    return (-rank_of(gang), number)


def in_order(rows):
    """The gangs of rows by falling rank, of one rank by rising number."""
    return [gang for gang, number in sorted(rows, key=place_in_order)]
