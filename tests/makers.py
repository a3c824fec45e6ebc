"""Short ways to make gangs, estates and halls, for the tests."""

from clusterhall.estate import Estate
from clusterhall.hall import Hall


def gang_of(name, guild="g", rank=0, many=1, want=(1,), how="any", length=10):
    """A gang, with plain values where nothing else is told."""
    return (name, guild, rank, many, want, how, length)


def estate_of(*houses):
    """An estate with houses (name, yard, room), all open, without kinds."""
    estate = Estate()
    for name, yard, room in houses:
        estate.add_house(name, yard, room, None)
    return estate


def book(estate, name, begin, end, placing, want=(1,)):
    """Books a gang of that name for a stretch."""
    many = sum(n for house, n in placing)
    estate.book_gang(gang_of(name, many=many, want=want, length=end - begin), placing, begin)


def all_of(estate, times=range(0, 41)):
    """All that an estate tells, to see whether it is the same later."""
    houses = estate.house_rows()
    return (
        houses,
        estate.booked_rows(),
        [estate.entries_in(row[0]) for row in houses],
        estate.whole_site(),
        [estate.house_loads(time) for time in times],
        [estate.site_for(time, time + 1) for time in times],
        [(estate.edge_after(time), estate.end_after(time)) for time in times],
    )


def hall_of(*houses, grace=5, **dues):
    """A hall with houses (name, yard, room), and guilds with their dues; a guild g with a due of 0 where none is told."""
    hall = Hall(1, grace)
    for guild, due in (dues or {"g": (0,)}).items():
        hall.step(("guild", guild, due))
    for house in houses:
        hall.step(("house", *house))
    return hall


def all_of_hall(hall, times=range(0, 41)):
    """All that a hall tells, to see whether it is the same later."""
    return (
        hall.time_now(),
        hall.grace_told(),
        hall.waiting_gangs(),
        hall.gang_rows(),
        [hall.gang_of(row[0]) for row in hall.gang_rows()],
        hall.taking_rows(),
        hall.barred_rows(),
        hall.due_rows(),
        hall.kind_rows(),
        all_of(hall.estate_now(), times),
        hall.share_rows(),
        hall.leavable_names(),
        hall.history_rows(),
    )
