"""The estate: houses, each with a book, and the gangs that are booked in them."""

from clusterhall.amounts import amount_times
from clusterhall.books import Book
from clusterhall.errors import NoGang, NoHouse, Taken

OPEN = "open"


def least_there(times):
    """The least of the times that aren't None; None where all are."""
    return min([time for time in times if time is not None], default=None)


class House:
    """A house: its yard, its kind or None, its state, and its book, which knows its room."""

    def __init__(self, yard, kind, state, book):
        self.yard = yard
        self.kind = kind
        self.state = state
        self.book = book

    def twin_house(self):
        """A house of its own with the same."""
        return House(self.yard, self.kind, self.state, self.book.twin_book())


class Estate:
    """The houses by their names, and of each gang that is booked the placing: the houses with its entries."""

    def __init__(self):
        self.houses = {}
        self.placings = {}

    def add_house(self, name, yard, room, kind):
        """One house more, which is open."""
        if name in self.houses:
            raise Taken(f"there is a house {name}")
        self.houses[name] = House(yard, kind, OPEN, Book(room))

    def set_state(self, name, state):
        """Opens or shuts a house."""
        house = self.house_of(name)
        house.state = state

    def drop_house(self, name):
        """Takes a house out with its book, and tells the book's keys."""
        keys = [key for key, begin, end, amount in self.entries_in(name)]
        del self.houses[name]
        for key in keys:
            self.keep_placing(key, [pair for pair in self.placings[key] if pair[0] != name])
        return keys

    def book_gang(self, gang, placing, begin):
        """Books a gang in all houses of a placing, or in none."""
        name, guild, rank, many, want, how, length = gang
        if self.is_booked(name):
            raise Taken(f"the gang {name} is booked")
        books = self.twin_books([house for house, n in placing])
        for house, n in sorted(placing):
            books[house].put_entry(name, begin, begin + length, amount_times(want, n))
        self.keep_books(books)
        self.keep_placing(name, sorted(placing))

    def cut_gang(self, name, time):
        """Lets a gang end at a time, if it would end later; one that has no stretch left isn't booked any more."""
        begin, end = self.stretch_of(name)
        if begin >= time:
            self.drop_gang(name)
            return
        for house, n in self.placing_of(name):
            self.house_of(house).book.cut_entry(name, time)

    def stretch_gang(self, name, end):
        """Lets a gang go on to an end, if it would end earlier, in all its houses or in none."""
        books = self.twin_books([house for house, n in self.placing_of(name)])
        for house in sorted(books):
            books[house].stretch_entry(name, end)
        self.keep_books(books)

    def drop_gang(self, name):
        """Takes a gang out of all books."""
        for house, n in self.placing_of(name):
            self.house_of(house).book.drop_entry(name)
        self.keep_placing(name, [])

    def forget_past(self, time):
        """Takes out all gangs that aren't there any more at a time or later, and tells their names."""
        gone = {}
        for house in self.houses.values():
            # All entries of a gang end at one time: one that goes from one book goes from all.
            for name in house.book.drop_past(time):
                gone[name] = True
        for name in gone:
            self.keep_placing(name, [])
        return sorted(gone)

    def site_for(self, begin, end):
        """The site of the open houses, with what is left over in a stretch."""
        return [(name, house.yard, house.book.left_over(begin, end)) for name, house in self.open_houses()]

    def whole_site(self):
        """The site of the open houses, with their whole rooms."""
        return [(name, house.yard, house.book.whole_room()) for name, house in self.open_houses()]

    def booked_rows(self):
        """The gangs that are booked, by rising names: (name, begin, end, placing)."""
        rows = []
        for name in sorted(self.placings):
            begin, end = self.stretch_of(name)
            rows.append((name, begin, end, self.placings[name]))
        return rows

    def house_rows(self):
        """The houses by rising names: (name, yard, room, kind, state)."""
        return [(name, house.yard, house.book.whole_room(), house.kind, house.state)
                for name, house in self.rising_houses()]

    def house_loads(self, time):
        """The pairs (name, load) of all houses at a time, by rising names."""
        return [(name, house.book.load_at(time)) for name, house in self.rising_houses()]

    def entries_in(self, name):
        """The entries of a house's book, by rising keys."""
        return self.house_of(name).book.entry_rows()

    def edge_after(self, time):
        """The least begin or end of all books above a time, or None."""
        return least_there([house.book.next_edge(time) for house in self.houses.values()])

    def end_after(self, time):
        """The least end of all books above a time, or None."""
        return least_there([house.book.next_end(time) for house in self.houses.values()])

    def twin_estate(self):
        """An estate of its own with the same houses and gangs."""
        twin = Estate()
        twin.houses = {name: self.houses[name].twin_house() for name in self.houses}
        twin.placings = dict(self.placings)
        return twin

    def house_of(self, name):
        """The house of a name; refused with NoHouse."""
        if name not in self.houses:
            raise NoHouse(f"there is no house {name}")
        return self.houses[name]

    def rising_houses(self):
        """The pairs (name, house) by rising names."""
        return [(name, self.houses[name]) for name in sorted(self.houses)]

    def open_houses(self):
        """The pairs (name, house) of the open houses, by rising names."""
        return [(name, house) for name, house in self.rising_houses() if house.state == OPEN]

    def is_booked(self, name):
        """Whether a gang is booked."""
        return name in self.placings

    def placing_of(self, name):
        """The placing of a gang that is booked; refused with NoGang."""
        if not self.is_booked(name):
            raise NoGang(f"the gang {name} isn't booked")
        return self.placings[name]

    def stretch_of(self, name):
        """The pair (begin, end) of a gang that is booked; refused with NoGang."""
        # Its entries are of one stretch in all houses, so the first one tells it.
        house, n = self.placing_of(name)[0]
        key, begin, end, amount = self.house_of(house).book.entry_of(name)
        return (begin, end)

    def keep_placing(self, name, pairs):
        """Keeps where a gang has entries; one that has none isn't booked."""
        if pairs:
            self.placings[name] = tuple(pairs)
        elif self.is_booked(name):
            del self.placings[name]

    def twin_books(self, names):
        """Twins of the books of houses, to be kept once none of them refuses; refused with NoHouse."""
        return {name: self.house_of(name).book.twin_book() for name in names}

    def keep_books(self, books):
        """Gives houses the books that were made for them."""
        for name in books:
            house = self.house_of(name)
            house.book = books[name]
