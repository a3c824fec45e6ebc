"""A house's book: which part of its room is taken, from when to when."""

from clusterhall.amounts import amount_fits, amount_least, amount_less, amount_sum, nothing_of
from clusterhall.errors import NoKey, Taken, TooMuch

ENDS = 0
BEGINS = 1


def turns_of(rows):
    """The turns (time, BEGINS or ENDS, amount) of entries, in the order of time."""
    turns = [(begin, BEGINS, amount) for key, begin, end, amount in rows]
    turns += [(end, ENDS, amount) for key, begin, end, amount in rows]
    # An entry isn't there any more at its end, so at one time the ends stand ahead of the begins.
    return sorted(turns)


def loads_of(wares, rows):
    """The stretches (begin, end, load) between the edges of entries, in the order of time."""
    loads = {}
    load = nothing_of(wares)
    for time, turn, amount in turns_of(rows):
        load = amount_sum(load, amount) if turn == BEGINS else amount_less(load, amount)
        loads[time] = load
    edges = list(loads)
    return [(begin, end, loads[begin]) for begin, end in zip(edges, edges[1:])]


def first_over(room, rows):
    """The first time at which entries come to more than room in some ware, or None."""
    for begin, end, load in loads_of(len(room), rows):
        if not amount_fits(load, room):
            return begin
    return None


def least_above(edges, time):
    """The least of the edges above a time, or None."""
    return min([edge for edge in edges if edge > time], default=None)


class Book:
    """The entries (key, begin, end, amount) of a house, which never come to more than its room."""

    def __init__(self, room):
        self.room = room
        self.entries = {}
        self.lefts = None

    def put_entry(self, key, begin, end, amount):
        """One entry more."""
        if key in self.entries:
            raise Taken(f"there is an entry of the key {key}")
        self.keep_entry((key, begin, end, amount))

    def cut_entry(self, key, time):
        """Lets an entry end at a time, if it would end later; one that has no stretch left is gone."""
        begin, end, amount = self.entry_of(key)[1:]
        if begin >= time:
            self.drop_entry(key)
        elif end > time:
            self.entries[key] = (key, begin, time, amount)
            self.lefts = None

    def stretch_entry(self, key, end):
        """Lets an entry go on to an end, if it would end earlier."""
        begin, old_end, amount = self.entry_of(key)[1:]
        if old_end < end:
            self.keep_entry((key, begin, end, amount))

    def drop_entry(self, key):
        """Takes an entry out."""
        self.entry_of(key)
        del self.entries[key]
        self.lefts = None

    def drop_past(self, time):
        """Takes out all entries that aren't there any more at a time or later, and tells their keys."""
        past = [key for key, begin, end, amount in self.entry_rows() if end <= time]
        for key in past:
            self.drop_entry(key)
        return past

    def load_at(self, time):
        """The amount that the entries come to at a time."""
        load = nothing_of(len(self.room))
        for key, begin, end, amount in self.entries.values():
            if begin <= time < end:
                load = amount_sum(load, amount)
        return load

    def left_over(self, begin, end):
        """The amount that is left at all times of a stretch."""
        least = None
        for since, till, left in self.left_rows():
            if since < end and begin < till:
                least = left if least is None else amount_least(least, left)
        return self.room if least is None else least

    def entry_rows(self):
        """The entries by rising keys."""
        return [self.entries[key] for key in sorted(self.entries)]

    def next_edge(self, time):
        """The least begin or end above a time, or None."""
        rows = self.entry_rows()
        return least_above([row[1] for row in rows] + [row[2] for row in rows], time)

    def next_end(self, time):
        """The least end above a time, or None."""
        return least_above([row[2] for row in self.entry_rows()], time)

    def whole_room(self):
        """The room of the house."""
        return self.room

    def twin_book(self):
        """A book of its own with the same room and entries."""
        twin = Book(self.room)
        twin.entries = dict(self.entries)
        # A list of what is left is never changed, only made anew, so both may have the same one.
        twin.lefts = self.lefts
        return twin

    def entry_of(self, key):
        """The entry of a key; refused with NoKey."""
        if key not in self.entries:
            raise NoKey(f"there is no entry of the key {key}")
        return self.entries[key]

    def keep_entry(self, entry):
        """Keeps an entry, instead of the one of its key, if there is one; refused with TooMuch."""
        key = entry[0]
        others = [row for row in self.entries.values() if row[0] != key]
        time = first_over(self.room, others + [entry])
        if time is not None:
            raise TooMuch(f"the entry of the key {key} is too much at {time}", time)
        self.entries[key] = entry
        self.lefts = None

    def left_rows(self):
        """The stretches (begin, end, left) between all edges, in the order of time; beyond them all room is left."""
        # What is left is asked much more often than it changes, so it is kept until it does.
        if self.lefts is None:
            self.lefts = [(begin, end, amount_less(self.room, load))
                          for begin, end, load in loads_of(len(self.room), self.entry_rows())]
        return self.lefts
