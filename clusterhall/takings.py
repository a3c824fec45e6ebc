"""Takings: how a gang could be placed, if others left for it."""

from clusterhall.gangs import length_of
from clusterhall.placing import placed

TOLD = "told"


def site_at(estate, gang, begin):
    """The site for a gang's stretch from a begin on."""
    return estate.site_for(begin, begin + length_of(gang))


def place_in(site, gang):
    """What placed tells of a gang in a site."""
    name, guild, rank, many, want, how, length = gang
    return placed(site, many, want, how)


def place_at(estate, gang, begin):
    """What placed tells of a gang in the site for its stretch from a begin on."""
    return place_in(site_at(estate, gang, begin), gang)


def place_without(estate, names, gang, begin):
    """What place_at would tell, were the gangs of these names cut to the begin."""
    return place_but(estate, names, [], gang, begin)


def booked_of(estate, names):
    """Those of the names whose gangs are booked."""
    return [name for name in names if estate.is_booked(name)]


def twin_but(estate, names, plans, begin):
    """A twin of an estate, where the gangs of these names are cut to a begin, and the plans aren't booked."""
    twin = estate.twin_estate()
    # One without any tasks isn't booked, and so there is nothing to be cut or dropped.
    for name in booked_of(twin, names):
        twin.cut_gang(name, begin)
    for name in booked_of(twin, plans):
        twin.drop_gang(name)
    return twin


def place_but(estate, names, plans, gang, begin):
    """What place_without would tell, weren't the plans booked."""
    return place_at(twin_but(estate, names, plans, begin), gang, begin)


def is_told(pair):
    """Whether a pair of placed has a placing."""
    return pair[0] == TOLD


def left_out(names, name):
    """The list of the names but one."""
    return [other for other in names if other != name]


def fewest_first(names, does):
    """The list of the fewest first names that do; all of them do."""
    first = []
    while not does(first):
        first = list(names[:len(first) + 1])
    return first


def needed_of(names, does):
    """A list of names of which none can be left out, if they are to do; None where not even all do.

    The fewest first ones are taken, then, from the last to the first, each is left out that isn't needed.
    """
    if not does(names):
        return None
    first = fewest_first(names, does)
    needed = first
    for name in reversed(first):
        fewer = left_out(needed, name)
        if does(fewer):
            needed = fewer
    return needed


def taking_for(estate, names, gang, begin):
    """The pair (some, placing) of names of which all have to leave for a gang, and its placing then, or None."""
    some = needed_of(names, lambda these: is_told(place_without(estate, these, gang, begin)))
    if some is None:
        return None
    return (some, place_without(estate, some, gang, begin)[1])


def shows_taking(estate, names, gang, begin):
    """Whether a gang can be placed without these names, but not if any one of them stays."""
    if not is_told(place_without(estate, names, gang, begin)):
        return False
    return not any([is_told(place_without(estate, left_out(names, name), gang, begin)) for name in names])


def bars_for(estate, names, plans, gang, begin):
    """The list of plans all of which bar a gang from being placed without these names, or None."""
    return needed_of(plans, lambda these: is_told(place_but(estate, names, these, gang, begin)))
