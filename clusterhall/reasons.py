"""Reasons: why a gang waits, checkers of that and of the hall's fairness, and which houses are needed."""

from clusterhall.books import first_over
from clusterhall.errors import NoGang
from clusterhall.fetching import best_fetch, spare_houses
from clusterhall.gangs import name_of
from clusterhall.hall import PLANNED, call_for
from clusterhall.placing import shows_none, shows_placed
from clusterhall.shares import may_take
from clusterhall.takings import TOLD, bars_for, is_told, left_out, place_at, place_but, place_in, site_at, twin_but


def waiting_one(hall, name):
    """The gang of a name that waits; refused with NoGang."""
    for gang in hall.waiting_gangs():
        if name_of(gang) == name:
            return gang
    raise NoGang(f"no gang {name} waits")


def grace_end(hall):
    """The time at which those would have left that were told to leave now."""
    return hall.time_now() + hall.grace_told()


def takable_names(hall, gang):
    """The names of those that a gang may take from, in order."""
    pairs = may_take(hall.due_rows(), hall.share_rows(), hall.leavable_names(), gang)
    return tuple(name for name, ground in pairs)


def planned_names(hall):
    """The names of the planned gangs, rising."""
    return [name for name, state, begin, end, placing in hall.gang_rows() if state == PLANNED]


def reason_of(hall, name):
    """Why a gang waits: a tuple of a word and what shows it."""
    gang = waiting_one(hall, name)
    estate = hall.estate_now()
    begin = grace_end(hall)
    word, told = place_in(estate.whole_site(), gang)
    if word != TOLD:
        return ("never", told)
    word, told = place_at(estate, gang, begin)
    if word == TOLD:
        return ("soon", told)
    names = takable_names(hall, gang)
    bars = bars_for(estate, names, planned_names(hall), gang, begin)
    if bars is not None:
        return ("plans", names, tuple(bars))
    return ("room", names, place_but(estate, names, [], gang, begin)[1])


def shows_reason(hall, name, reason):
    """Whether a tuple of the form of a reason shows why a gang waits."""
    try:
        gang = waiting_one(hall, name)
    except NoGang:
        return False
    match reason:
        case ("never", counts):
            return shows_counts(hall.estate_now().whole_site(), gang, counts)
        case ("soon", placing):
            return shows_soon(hall, gang, placing)
        case ("plans", names, bars):
            return names == takable_names(hall, gang) and shows_bars(hall, names, bars, gang)
        case ("room", names, counts):
            return names == takable_names(hall, gang) and shows_no_room(hall, names, counts, gang)
    return False


def shows_counts(site, gang, counts):
    """Whether a gang can't be placed in a site, as these counts show."""
    name, guild, rank, many, want, how, length = gang
    return shows_none(site, many, want, how, counts)


def shows_soon(hall, gang, placing):
    """Whether a gang could be placed so behind the grace."""
    name, guild, rank, many, want, how, length = gang
    return shows_placed(site_at(hall.estate_now(), gang, grace_end(hall)), many, want, how, placing)


def shows_bars(hall, names, bars, gang):
    """Whether a gang could be placed behind the grace without these names and bars, but with no bar less."""
    planned = planned_names(hall)
    if not bars or len(set(bars)) < len(bars) or not all(bar in planned for bar in bars):
        return False
    estate = hall.estate_now()
    begin = grace_end(hall)
    if not is_told(place_but(estate, names, bars, gang, begin)):
        return False
    return not any([is_told(place_but(estate, names, left_out(bars, bar), gang, begin)) for bar in bars])


def shows_no_room(hall, names, counts, gang):
    """Whether a gang can't be placed behind the grace without these names, as these counts show."""
    begin = grace_end(hall)
    return shows_counts(site_at(twin_but(hall.estate_now(), names, [], begin), gang, begin), gang, counts)


def unfair(estate, dues, rows, names, gangs, now, grace):
    """The name of the first of the gangs that could begin now, or be called; None where there is none."""
    for gang in gangs:
        if is_told(place_at(estate, gang, now)):
            return name_of(gang)
        if call_for(estate, dues, rows, names, gang, now + grace) is not None:
            return name_of(gang)
    return None


def overborne(room, rows):
    """The first time at which entries come to more than room in some ware, or None."""
    return first_over(room, rows)


def fetch_for(hall, name):
    """The pair (kind's name, n) of the fewest houses to fetch for one that waits, or None."""
    return best_fetch(hall.estate_now(), hall.kind_rows(), waiting_one(hall, name), hall.time_now())


def spare_now(hall):
    """The houses that none of those that wait needs."""
    return spare_houses(hall.estate_now(), hall.waiting_gangs())
