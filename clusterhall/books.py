"""A house's book: which part of its room is taken, from when to when."""

from clusterhall.amounts import amount_fits, amount_least, amount_less, amount_sum, nothing_of
from clusterhall.errors import NoKey, Taken, TooMuch

ENDS = 0
BEGINS = 1


def turns_in(rows, begin, end):
    """The turns (time, BEGINS or ENDS, amount) of the entries that meet a stretch, in the order of time."""
    turns = []
    for key, since, till, amount in rows:
        if since < end and begin < till:
            turns.append((max(since, begin), BEGINS, amount))
            turns.append((till, ENDS, amount))
    # An entry isn't there any more at its end, so at one time the ends stand ahead of the begins.
    return sorted(turns)


def loads_in(wares, rows, begin, end):
    """The pairs (time, load) behind each turn of a stretch by which the load grows, in the order of time.

    Between these turns the load only falls, and where several entries begin at one time the last pair of
    that time has the whole load: so no load of the stretch is missed that is higher than these.
    """
    loads = []
    load = nothing_of(wares)
    for time, turn, amount in turns_in(rows, begin, end):
        if turn == BEGINS:
            load = amount_sum(load, amount)
            loads.append((time, load))
        else:
            load = amount_less(load, amount)
    return loads


def first_over(room, rows, begin, end):
    """The first time of a stretch at which entries come to more than room in some ware, or None."""
    for time, load in loads_in(len(room), rows, begin, end):
        if not amount_fits(load, room):
            return time
    return None


def least_above(edges, time):
    """The least of the edges above a time, or None."""
    return min([edge for edge in edges if edge > time], default=None)


class Book:
    """The entries (key, begin, end, amount) of a house, which never come to more than its room."""

    def __init__(self, room):
        self.room = room
        self.entries = {}

    def put_entry(self, key, begin, end, amount):
        """One entry more."""
        if key in self.entries:
            raise Taken(f"there is an entry of the key {key}")
        self.keep_entry((key, begin, end, amount), begin)

    def cut_entry(self, key, time):
        """Lets an entry end at a time, if it would end later; one that has no stretch left is gone."""
        begin, end, amount = self.entry_of(key)[1:]
        if begin >= time:
            del self.entries[key]
        elif end > time:
            self.entries[key] = (key, begin, time, amount)

    def stretch_entry(self, key, end):
        """Lets an entry go on to an end, if it would end earlier."""
        begin, old_end, amount = self.entry_of(key)[1:]
        if old_end < end:
            self.keep_entry((key, begin, end, amount), old_end)

    def drop_entry(self, key):
        """Takes an entry out."""
        self.entry_of(key)
        del self.entries[key]

    def drop_past(self, time):
        """Takes out all entries that aren't there any more at a time or later, and tells their keys."""
        past = [key for key, begin, end, amount in self.entry_rows() if end <= time]
        for key in past:
            del self.entries[key]
        return past

    def load_at(self, time):
        """The amount that the entries come to at a time."""
        load = nothing_of(len(self.room))
        for key, begin, end, amount in self.entries.values():
            if begin <= time < end:
                load = amount_sum(load, amount)
        return load

    def left_over(self, begin, end):
        """The amount that is left at all times of a stretch."""
        left = self.room
        for time, load in loads_in(len(self.room), self.entry_rows(), begin, end):
            left = amount_least(left, amount_less(self.room, load))
        return left

    def entry_rows(self):
        """The entries by rising keys."""
        return [self.entries[key] for key in sorted(self.entries)]

    def next_edge(self, time):
        """The least begin or end above a time, or None."""
        rows = self.entry_rows()
        return least_above([row[1] for row in rows] + [row[2] for row in rows], time)

    def next_end(self, time):
        """The least end above a time, or None."""
        return least_above([row[2] for row in self.entry_rows()], time)

    def whole_room(self):
        """The room of the house."""
        return self.room

    def twin_book(self):
        """A book of its own with the same room and entries."""
        twin = Book(self.room)
        twin.entries = dict(self.entries)
        return twin

    def entry_of(self, key):
        """The entry of a key; refused with NoKey."""
        if key not in self.entries:
            raise NoKey(f"there is no entry of the key {key}")
        return self.entries[key]

    def keep_entry(self, entry, since):
        """Keeps an entry, instead of the one of its key, if there is one; refused with TooMuch.

        Only from the time since on it takes more than was kept before, so only there the room is looked at.
        """
        key = entry[0]
        others = [row for row in self.entries.values() if row[0] != key]
        time = first_over(self.room, others + [entry], since, entry[2])
        if time is not None:
            raise TooMuch(f"the entry of the key {key} is too much at {time}", time)
        self.entries[key] = entry
