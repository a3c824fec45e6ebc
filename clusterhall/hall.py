"""The hall: gangs that wait, go, are called or planned, as events come and time goes on."""

from clusterhall.errors import InUse, NoGang, NoGuild, NoKind, NoPlan, Past, Taken, TooMany, TooMuch
from clusterhall.estate import Estate, least_there
from clusterhall.fetching import fetched_of
from clusterhall.gangs import guild_of, in_order, length_of, name_of
from clusterhall.shares import may_take
from clusterhall.takings import TOLD, place_at, taking_for

WAITS = "waits"
GOES = "goes"
LEAVES = "leaves"
CALLED = "called"
PLANNED = "planned"
NOT_BOOKED = (None, None, ())


def call_for(estate, dues, rows, names, gang, begin):
    """The pair (some, placing) by which a gang can be called for a begin, or None where it can't be.

    Some are the pairs (name, ground) of those that are to leave for it, one at least.
    """
    pairs = may_take(dues, rows, names, gang)
    if not pairs:
        return None
    taking = taking_for(estate, [name for name, ground in pairs], gang, begin)
    if taking is None or not taking[0]:
        return None
    some, placing = taking
    return (tuple(pair for pair in pairs if pair[0] in some), placing)


class Member:
    """A gang of the hall: its state and its numbers; the estate knows when and where it is booked."""

    def __init__(self, gang, told_number, state):
        self.gang = gang
        self.told_number = told_number
        self.begun_number = None
        self.state = state


class Hall:
    """Houses, guilds and gangs at a time, and the rows of all that has happened so far."""

    def __init__(self, wares, grace):
        self.wares = wares
        self.grace = grace
        self.now = 0
        self.estate = Estate()
        self.dues = {}
        self.kinds = {}
        self.members = {}
        self.takings = []
        self.barred = []
        self.history = []
        self.last_told = 0
        self.last_begun = 0

    def step(self, event):
        """Does an event and the rounds behind it, and tells the rows of what happened."""
        since = len(self.history)
        self.do_event(event)
        self.do_rounds()
        return self.history[since:]

    def time_now(self):
        """The time that it is."""
        return self.now

    def grace_told(self):
        """How long one that is told to leave still stays."""
        return self.grace

    def waiting_gangs(self):
        """The gangs that wait, in order."""
        return in_order([(member.gang, member.told_number) for member in self.members_in((WAITS,))])

    def gang_rows(self):
        """The rows (name, state, begin, end, placing) of all gangs, by rising names."""
        booked = {row[0]: row[1:] for row in self.estate.booked_rows()}
        return [(name, self.members[name].state) + booked.get(name, NOT_BOOKED) for name in sorted(self.members)]

    def gang_of(self, name):
        """The gang of a name."""
        return self.member_of(name).gang

    def taking_rows(self):
        """The rows (name, called one's name, ground, end) of those that are still to leave, in the order told."""
        return [(name, called, ground, self.estate.stretch_of(name)[1]) for name, called, ground in self.takings]

    def barred_rows(self):
        """The rows (name, begin, house) of the plans that couldn't be kept, in order."""
        return list(self.barred)

    def due_rows(self):
        """The dict from the guilds to their dues."""
        return dict(self.dues)

    def kind_rows(self):
        """The kinds by rising names."""
        return [self.kinds[name] for name in sorted(self.kinds)]

    def estate_now(self):
        """A twin of the estate."""
        return self.estate.twin_estate()

    def share_rows(self):
        """The rows that count for shares, by rising begun numbers."""
        rows = [(member.begun_number, member.gang) for member in self.members_in((GOES, CALLED))]
        return [(gang, number) for number, gang in sorted(rows)]

    def leavable_names(self):
        """The names of those that may be told to leave, rising."""
        return sorted([name_of(member.gang) for member in self.members_in((GOES,))])

    def history_rows(self):
        """All rows that were told so far, in order."""
        return list(self.history)

    def do_event(self, event):
        """Does what an event says; the refusals go ahead of all changes."""
        match event:
            case ("guild", name, due):
                self.dues[name] = due
            case ("house", name, yard, room):
                self.estate.add_house(name, yard, room, None)
            case ("kind", name, yard, room, most):
                self.add_kind(name, yard, room, most)
            case ("fetch", kind, name):
                self.fetch_house(kind, name)
            case ("shut", name):
                self.estate.set_state(name, "shut")
            case ("open", name):
                self.estate.set_state(name, "open")
            case ("let", name):
                self.let_house(name)
            case ("fall", name):
                self.fell_house(name)
            case ("gang", gang):
                self.tell_gang(gang)
            case ("plan", gang, begin):
                self.plan_gang(gang, begin)
            case ("quit", name):
                self.drop_member(name)
            case ("time", time):
                self.go_on_to(time)

    def add_kind(self, name, yard, room, most):
        """One kind more."""
        if name in self.kinds:
            raise Taken(f"there is a kind {name}")
        self.kinds[name] = (name, yard, room, most)

    def fetch_house(self, kind, name):
        """One house more, of a kind."""
        if kind not in self.kinds:
            raise NoKind(f"there is no kind {kind}")
        word, yard, room, most = self.kinds[kind]
        if name in self.estate.houses:
            raise Taken(f"there is a house {name}")
        if fetched_of(self.estate, kind) >= most:
            raise TooMany(f"there are {most} houses of the kind {kind}")
        self.estate.add_house(name, yard, room, kind)

    def let_house(self, name):
        """Lets a house without entries go."""
        if self.estate.entries_in(name):
            raise InUse(f"the house {name} has entries")
        self.estate.drop_house(name)

    def fell_house(self, house):
        """Drops a house: what goes or is called in it waits again, what is planned in it is moved or barred."""
        called = []
        planned = []
        for name, begin, end, amount in self.estate.entries_in(house):
            state = self.members[name].state
            self.estate.drop_gang(name)
            if state == PLANNED:
                planned.append((begin, name))
                continue
            if state == CALLED:
                called.append(name)
            self.wait_again(name)
            self.history.append(("broken", self.now, name, house))
        self.estate.drop_house(house)
        for name in called:
            self.call_off(name)
        for begin, name in sorted(planned):
            self.move_plan(name, begin, house)

    def move_plan(self, name, begin, house):
        """Books a planned gang anew, as its house has fallen; where that can't be done it is barred."""
        gang = self.members[name].gang
        word, placing = place_at(self.estate, gang, begin)
        if word == TOLD:
            self.estate.book_gang(gang, placing, begin)
            self.history.append(("moved", self.now, name, placing))
        else:
            del self.members[name]
            self.barred.append((name, begin, house))
            self.history.append(("barred", self.now, name, house))

    def tell_gang(self, gang):
        """One gang more, which waits."""
        self.look_at(gang)
        self.add_member(gang, WAITS)

    def plan_gang(self, gang, begin):
        """One gang more, which is booked for a later begin."""
        self.look_at(gang)
        if begin <= self.now:
            raise Past(f"{begin} isn't above {self.now}")
        word, placing = place_at(self.estate, gang, begin)
        if word != TOLD:
            raise NoPlan(f"the gang {name_of(gang)} can't be placed at {begin}", placing)
        self.estate.book_gang(gang, placing, begin)
        self.add_member(gang, PLANNED)
        self.history.append(("planned", self.now, name_of(gang), begin, placing))

    def look_at(self, gang):
        """Refuses a gang whose name is there already, or whose guild isn't there."""
        if name_of(gang) in self.members:
            raise Taken(f"there is a gang {name_of(gang)}")
        if guild_of(gang) not in self.dues:
            raise NoGuild(f"there is no guild {guild_of(gang)}")

    def add_member(self, gang, state):
        """Keeps a gang with the next told number."""
        self.last_told += 1
        self.members[name_of(gang)] = Member(gang, self.last_told, state)

    def drop_member(self, name):
        """Lets a gang be gone, with its entries."""
        state = self.member_of(name).state
        if self.estate.is_booked(name):
            self.estate.drop_gang(name)
        self.forget_taking(name)
        del self.members[name]
        if state == CALLED:
            self.call_off(name)

    def call_off(self, called):
        """Lets those go on that are to leave for a gang of that name; its own entries are dropped already."""
        for name, taker, ground in list(self.takings):
            if taker == called:
                self.keep_gang(name)

    def keep_gang(self, name):
        """Lets one that is to leave go on to the end of its length, where there is still room for it."""
        member = self.members[name]
        begin, end = self.estate.stretch_of(name)
        try:
            self.estate.stretch_gang(name, begin + length_of(member.gang))
        except TooMuch:
            return
        member.state = GOES
        self.forget_taking(name)
        self.history.append(("kept", self.now, name))

    def go_on_to(self, time):
        """Lets time go on by stops."""
        if time < self.now:
            raise Past(f"{time} is below {self.now}")
        stop = self.next_stop()
        while stop is not None and stop <= time:
            self.now = stop
            self.do_stop()
            stop = self.next_stop()
        self.now = time

    def next_stop(self):
        """The next time at which one that waits may find more room, now or behind the grace; None if there is none."""
        edge = self.estate.edge_after(self.now)
        end = self.estate.end_after(self.now + self.grace)
        return least_there([edge, None if end is None else end - self.grace])

    def do_stop(self):
        """Lets gangs end and begin now, then come rounds."""
        for name in self.estate.forget_past(self.now):
            self.end_gang(name)
        for name, begin, end, placing in self.estate.booked_rows():
            if begin == self.now:
                self.let_go(name, placing)
        self.do_rounds()

    def end_gang(self, name):
        """Lets a gang whose stretch is over wait again, if it was told to leave, or be gone."""
        if self.members[name].state == LEAVES:
            self.wait_again(name)
            self.history.append(("left", self.now, name))
        else:
            del self.members[name]
            self.history.append(("ended", self.now, name))

    def let_go(self, name, placing):
        """Lets a gang go that is booked from now on."""
        member = self.members[name]
        # One that was called has its number from then on.
        if member.state != CALLED:
            self.number_begun(member)
        member.state = GOES
        self.history.append(("begun", self.now, name, placing))

    def number_begun(self, member):
        """Gives a gang the next begun number."""
        self.last_begun += 1
        member.begun_number = self.last_begun

    def do_rounds(self):
        """Goes through those that wait, until that changes nothing."""
        changed = True
        while changed:
            changed = self.do_round()

    def do_round(self):
        """Tries each one that waits, in order; tells whether one of them waits no more."""
        changed = False
        for gang in self.waiting_gangs():
            if self.try_now(gang) or self.try_call(gang):
                changed = True
        return changed

    def try_now(self, gang):
        """Lets a gang go, if it can be placed now; tells whether it does."""
        word, placing = place_at(self.estate, gang, self.now)
        if word != TOLD:
            return False
        self.estate.book_gang(gang, placing, self.now)
        self.let_go(name_of(gang), placing)
        return True

    def try_call(self, gang):
        """Calls a gang, if others can be told to leave for it; tells whether it is called."""
        begin = self.now + self.grace
        call = call_for(self.estate, self.dues, self.share_rows(), self.leavable_names(), gang, begin)
        if call is None:
            return False
        some, placing = call
        for name, ground in some:
            self.takings.append((name, name_of(gang), ground))
            self.tell_to_leave(name, begin)
        self.estate.book_gang(gang, placing, begin)
        member = self.members[name_of(gang)]
        self.number_begun(member)
        member.state = CALLED
        self.history.append(("called", self.now, name_of(gang), begin, placing, some))
        return True

    def tell_to_leave(self, name, time):
        """Lets a gang that goes stay till a time only."""
        member = self.members[name]
        member.state = LEAVES
        self.estate.cut_gang(name, time)
        # Were there no grace at all, one that begins just now would have no stretch left.
        if not self.estate.is_booked(name):
            self.wait_again(name)

    def member_of(self, name):
        """The member of a name; refused with NoGang."""
        if name not in self.members:
            raise NoGang(f"there is no gang {name}")
        return self.members[name]

    def members_in(self, states):
        """The members that are in one of the states."""
        return [member for member in self.members.values() if member.state in states]

    def wait_again(self, name):
        """Lets a gang wait that isn't booked any more."""
        member = self.members[name]
        member.state = WAITS
        member.begun_number = None
        self.forget_taking(name)

    def forget_taking(self, name):
        """A gang isn't to leave any more, if it was."""
        self.takings = [row for row in self.takings if row[0] != name]
