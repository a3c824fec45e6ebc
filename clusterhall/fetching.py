"""Fetching: how many more houses of a kind a gang needs, and which houses no gang needs any more."""

from clusterhall.amounts import amount_fits
from clusterhall.gangs import want_of
from clusterhall.takings import is_told, place_at, place_in, site_at


def fetched_of(estate, name):
    """How many houses of the kind of that name there are."""
    return len([house for house, yard, room, kind, state in estate.house_rows() if kind == name])


def fits_beside(site, kind, n, gang):
    """Whether a gang could be placed in a site, were there n more houses of the kind, all empty."""
    name, yard, room, most = kind
    # A number is no NAME, so no house of the site is called so.
    more = [(str(number), yard, room) for number in range(n)]
    return is_told(place_in(site + more, gang))


def fits_with(estate, kind, n, gang, begin):
    """Whether a gang could be placed at a begin, were there n more open houses of the kind, all empty."""
    return fits_beside(site_at(estate, gang, begin), kind, n, gang)


def least_more(estate, kind, gang, begin):
    """The least number of more houses of the kind with which a gang could be placed at a begin, or None."""
    name, yard, room, most = kind
    site = site_at(estate, gang, begin)
    for n in range(most - fetched_of(estate, name) + 1):
        if fits_beside(site, kind, n, gang):
            return n
    return None


def best_fetch(estate, kinds, gang, begin):
    """The pair (kind's name, n) of the fewest houses to fetch for a gang; None where it needs none, or none do."""
    if is_told(place_at(estate, gang, begin)):
        return None
    fetches = []
    for kind in kinds:
        n = least_more(estate, kind, gang, begin)
        if n is not None:
            fetches.append((n, kind[0]))
    if not fetches:
        return None
    n, name = min(fetches)
    return (name, n)


def spare_houses(estate, gangs):
    """The houses that have a kind and no entries, and are too small for any task of the gangs."""
    return [house for house, yard, room, kind, state in estate.house_rows()
            if kind is not None and not estate.entries_in(house)
            and not any(amount_fits(want_of(gang), room) for gang in gangs)]
