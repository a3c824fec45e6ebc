"""The whole program: long drawn stories of events, beside a slow, plain model of the hall [16] to [23]."""

import random
import unittest

from makers import all_of, all_of_hall

from clusterhall.errors import HallError, NoPlan
from clusterhall.gangs import in_order
from clusterhall.hall import Hall
from clusterhall.placing import placed
from clusterhall.reasons import fetch_for, overborne, reason_of, shows_reason, spare_now, unfair
from clusterhall.shares import may_take

HOWS = ("any", "any", "apart", "near", "wide")
LIST_ASKS = ("waiting_gangs", "gang_rows", "taking_rows", "barred_rows", "due_rows", "kind_rows", "share_rows",
             "leavable_names", "history_rows")
WANTS = ((1, 0), (1, 1), (2, 1), (0, 2), (3, 1))


class Refused(Exception):
    """A refusal of the plain model, by its class's name."""


class Folk:
    """A gang of the plain model."""

    def __init__(self, gang, told):
        self.gang, self.told, self.begun, self.state = gang, told, None, "waits"
        self.begin, self.end, self.placing = None, None, ()

    def book(self, begin, placing, state):
        self.begin, self.end, self.placing, self.state = begin, begin + self.gang[6], placing, state

    def unbook(self):
        self.begin, self.end, self.placing, self.state, self.begun = None, None, (), "waits", None


class PlainHall:
    """The hall by the words of the document: it looks at each time by itself, and keeps nothing but plain rows."""

    def __init__(self, grace):
        self.now, self.grace = 0, grace
        self.houses, self.kinds, self.dues, self.folk = {}, {}, {}, {}
        self.leaving, self.barred, self.history = [], [], []
        self.told = self.begun = 0

    # The estate.

    def load(self, house, time, ends=(), without=()):
        """What a house bears at a time, were some gangs to end then as told, and others not there."""
        load = [0, 0]
        for name, one in self.folk.items():
            end = min(one.end, dict(ends).get(name, one.end)) if one.placing else 0
            if one.placing and name not in without and one.begin <= time < end:
                n = dict(one.placing).get(house, 0)
                load = [load[ware] + n * one.gang[4][ware] for ware in (0, 1)]
        return load

    def site(self, begin, end, ends=(), without=()):
        times = [begin] + [one.begin for one in self.folk.values() if one.placing and begin < one.begin < end]
        rows = []
        for name, (yard, room, kind, state) in sorted(self.houses.items()):
            loads = [self.load(name, time, ends, without) for time in times]
            if state == "open":
                rows.append((name, yard, tuple(min(room[ware] - load[ware] for load in loads) for ware in (0, 1))))
        return rows

    def place(self, gang, begin, names=(), without=()):
        ends = [(name, begin) for name in names]
        return placed(self.site(begin, begin + gang[6], ends, without), gang[3], gang[4], gang[5])

    def needed(self, names, does):
        """The two turns of [14]."""
        fitting = [names[:n] for n in range(len(names) + 1) if does(names[:n])]
        if not fitting:
            return None
        some = list(fitting[0])
        for name in reversed(fitting[0]):
            fewer = [other for other in some if other != name]
            if does(fewer):
                some = fewer
        return some

    # Who is in which state.

    def those(self, *states):
        return [name for name in sorted(self.folk) if self.folk[name].state in states]

    def waiting(self):
        return in_order([(self.folk[name].gang, self.folk[name].told) for name in self.those("waits")])

    def shares(self):
        rows = [(self.folk[name].gang, self.folk[name].begun) for name in self.those("goes", "called")]
        return sorted(rows, key=lambda row: row[1])

    def takable(self, gang):
        return may_take(self.dues, self.shares(), self.those("goes"), gang)

    def to_leave(self, name):
        return name in [row[0] for row in self.leaving]

    def not_to_leave(self, name):
        self.leaving = [row for row in self.leaving if row[0] != name]

    def refuse_if(self, wrong, word):
        if wrong:
            raise Refused(word)

    # Events.

    def step(self, event):
        since = len(self.history)
        getattr(self, "do_" + event[0])(*event[1:])
        self.rounds()
        return self.history[since:]

    def do_guild(self, name, due):
        self.dues[name] = due

    def do_house(self, name, yard, room):
        self.refuse_if(name in self.houses, "Taken")
        self.houses[name] = (yard, room, None, "open")

    def do_kind(self, name, yard, room, most):
        self.refuse_if(name in self.kinds, "Taken")
        self.kinds[name] = (yard, room, most)

    def do_fetch(self, kind, name):
        self.refuse_if(kind not in self.kinds, "NoKind")
        self.refuse_if(name in self.houses, "Taken")
        yard, room, most = self.kinds[kind]
        self.refuse_if([row[2] for row in self.houses.values()].count(kind) >= most, "TooMany")
        self.houses[name] = (yard, room, kind, "open")

    def do_shut(self, name):
        self.refuse_if(name not in self.houses, "NoHouse")
        self.houses[name] = self.houses[name][:3] + ("shut",)

    def do_open(self, name):
        self.refuse_if(name not in self.houses, "NoHouse")
        self.houses[name] = self.houses[name][:3] + ("open",)

    def those_in(self, house):
        return [name for name in sorted(self.folk) if house in dict(self.folk[name].placing)]

    def do_let(self, name):
        self.refuse_if(name not in self.houses, "NoHouse")
        self.refuse_if(self.those_in(name), "InUse")
        del self.houses[name]

    def do_gang(self, gang):
        self.refuse_if(gang[0] in self.folk, "Taken")
        self.refuse_if(gang[1] not in self.dues, "NoGuild")
        self.told += 1
        self.folk[gang[0]] = Folk(gang, self.told)

    def do_plan(self, gang, begin):
        self.refuse_if(gang[0] in self.folk, "Taken")
        self.refuse_if(gang[1] not in self.dues, "NoGuild")
        self.refuse_if(begin <= self.now, "Past")
        word, placing = self.place(gang, begin)
        self.refuse_if(word == "none", f"NoPlan {placing}")
        self.told += 1
        self.folk[gang[0]] = Folk(gang, self.told)
        self.folk[gang[0]].book(begin, placing, "planned")
        self.history.append(("planned", self.now, gang[0], begin, placing))

    def do_quit(self, name):
        self.refuse_if(name not in self.folk, "NoGang")
        gone = self.folk.pop(name)
        self.not_to_leave(name)
        if gone.state == "called":
            self.call_off(name)

    def do_fall(self, house):
        self.refuse_if(house not in self.houses, "NoHouse")
        there = self.those_in(house)
        called = [name for name in there if self.folk[name].state == "called"]
        planned = sorted((self.folk[name].begin, name) for name in there if self.folk[name].state == "planned")
        del self.houses[house]
        for name in there:
            if self.folk[name].state != "planned":
                self.not_to_leave(name)
                self.history.append(("broken", self.now, name, house))
            self.folk[name].unbook()
        for name in called:
            self.call_off(name)
        for begin, name in planned:
            word, placing = self.place(self.folk[name].gang, begin)
            if word == "told":
                self.folk[name].book(begin, placing, "planned")
                self.history.append(("moved", self.now, name, placing))
            else:
                del self.folk[name]
                self.barred.append((name, begin, house))
                self.history.append(("barred", self.now, name, house))

    def call_off(self, called):
        for name in [row[0] for row in self.leaving if row[1] == called]:
            one = self.folk[name]
            old_end, new_end = one.end, one.begin + one.gang[6]
            one.end = new_end
            if any(self.load(house, time)[ware] > self.houses[house][1][ware]
                   for house in self.houses for time in range(old_end, new_end) for ware in (0, 1)):
                one.end = old_end
            else:
                one.state = "goes"
                self.not_to_leave(name)
                self.history.append(("kept", self.now, name))

    # Time and rounds.

    def do_time(self, time):
        self.refuse_if(time < self.now, "Past")
        while self.now < time:
            self.now += 1
            booked = [one for one in self.folk.values() if one.placing]
            if any(self.now in (one.begin, one.end, one.end - self.grace) for one in booked):
                self.stop()

    def stop(self):
        for name in sorted(self.folk):
            one = self.folk[name]
            if one.end == self.now and one.state == "leaves":
                one.unbook()
                self.not_to_leave(name)
                self.history.append(("left", self.now, name))
            elif one.end == self.now:
                del self.folk[name]
                self.history.append(("ended", self.now, name))
        for name in self.those("called", "planned"):
            one = self.folk[name]
            if one.begin == self.now:
                if one.state == "planned":
                    self.begun += 1
                    one.begun = self.begun
                one.state = "goes"
                self.history.append(("begun", self.now, name, one.placing))
        self.rounds()

    def rounds(self):
        changed = True
        while changed:
            changed = False
            for gang in self.waiting():
                word, placing = self.place(gang, self.now)
                if word == "told":
                    changed = True
                    self.begin(gang[0], self.now, placing, "goes")
                    self.history.append(("begun", self.now, gang[0], placing))
                elif self.try_call(gang, self.now + self.grace):
                    changed = True

    def begin(self, name, begin, placing, state):
        self.begun += 1
        self.folk[name].book(begin, placing, state)
        self.folk[name].begun = self.begun

    def try_call(self, gang, begin):
        pairs = self.takable(gang)
        some = self.needed([name for name, ground in pairs], lambda these: self.place(gang, begin, these)[0] == "told")
        if not some:
            return False
        placing = self.place(gang, begin, some)[1]
        taken = tuple((name, dict(pairs)[name]) for name in some)
        for name, ground in taken:
            self.folk[name].end = begin
            self.folk[name].state = "leaves"
            self.leaving.append((name, gang[0], ground))
        self.begin(gang[0], begin, placing, "called")
        self.history.append(("called", self.now, gang[0], begin, placing, taken))
        return True

    # Asks.

    def asks(self):
        rows = [(name, one.state, one.begin, one.end, one.placing) for name, one in sorted(self.folk.items())]
        return {
            "time_now": self.now,
            "grace_told": self.grace,
            "waiting_gangs": self.waiting(),
            "gang_rows": rows,
            "taking_rows": [(name, called, ground, self.folk[name].end) for name, called, ground in self.leaving],
            "barred_rows": self.barred,
            "due_rows": self.dues,
            "kind_rows": [(name, *self.kinds[name]) for name in sorted(self.kinds)],
            "share_rows": self.shares(),
            "leavable_names": self.those("goes"),
            "history_rows": self.history,
        }

    def reason(self, gang):
        whole = [(name, row[0], row[1]) for name, row in sorted(self.houses.items()) if row[3] == "open"]
        word, counts = placed(whole, gang[3], gang[4], gang[5])
        if word == "none":
            return ("never", counts)
        begin = self.now + self.grace
        word, placing = self.place(gang, begin)
        if word == "told":
            return ("soon", placing)
        names = tuple(name for name, ground in self.takable(gang))
        bars = self.needed(self.those("planned"), lambda these: self.place(gang, begin, names, these)[0] == "told")
        if bars is not None:
            return ("plans", names, tuple(bars))
        return ("room", names, self.place(gang, begin, names)[1])

    def fetch(self, gang):
        if self.place(gang, self.now)[0] == "told":
            return None
        able = []
        for name, (yard, room, most) in self.kinds.items():
            there = [row[2] for row in self.houses.values()].count(name)
            for n in range(1, most - there + 1):
                site = self.site(self.now, self.now + gang[6]) + [(f"Z{at}", yard, room) for at in range(n)]
                if placed(site, gang[3], gang[4], gang[5])[0] == "told":
                    able.append((n, name))
        return min(able)[::-1] if able else None

    def spare(self):
        wants = [gang[4] for gang in self.waiting()]
        return [name for name, (yard, room, kind, state) in sorted(self.houses.items())
                if kind is not None and not self.those_in(name)
                and not any(want[0] <= room[0] and want[1] <= room[1] for want in wants)]


def answer(hall, event):
    """What an event tells, or the name of its refusal."""
    try:
        return hall.step(event)
    except NoPlan as refusal:
        return f"NoPlan {refusal.counts}"
    except HallError as refusal:
        return type(refusal).__name__


def plain_answer(plain, event):
    try:
        return plain.step(event)
    except Refused as refusal:
        return str(refusal)


def some_gang(chance):
    return (chance.choice("abcdefghij"), chance.choice("ggghhhi"), chance.randrange(4), chance.randrange(1, 5),
            chance.choice(WANTS), chance.choice(HOWS), chance.randrange(1, 40))


def some_room(chance):
    return (chance.randrange(2, 8), chance.randrange(1, 8))


def some_event(chance, now):
    """An event as it may come; some of them are to be refused."""
    house = chance.choice("opqrs")
    word = chance.choice(["gang"] * 12 + ["plan"] * 6 + ["time"] * 9 + ["quit"] * 3 + ["fall"] * 2 + ["house"] * 2
                         + ["guild", "kind", "fetch", "fetch", "shut", "open", "open", "let"])
    return {
        "guild": (word, chance.choice("gh"), (chance.randrange(12), chance.randrange(12))),
        "house": (word, house, chance.choice("xyz"), some_room(chance)),
        "kind": (word, chance.choice("kl"), chance.choice("xyz"), some_room(chance), chance.randrange(1, 3)),
        "fetch": (word, chance.choice("kl"), house),
        "gang": (word, some_gang(chance)),
        "plan": (word, some_gang(chance), now + chance.randrange(0, 30)),
        "quit": (word, chance.choice("abcdefghij")),
        "time": (word, now + chance.choice([-1, 0, 1, 1, 2, 3, 5, 8, 13, 20])),
    }.get(word, (word, house))


def crowded_event(chance, now):
    """An event in a hall where much is called, and called off."""
    house = chance.choice("opq")
    word = chance.choice(["gang"] * 14 + ["plan"] * 4 + ["time"] * 4 + ["quit"] * 5 + ["fall", "guild", "house", "house"])
    gang = (chance.choice("abcdefghij"), chance.choice("gh"), chance.randrange(6), chance.randrange(1, 5),
            chance.choice(WANTS[:4]), chance.choice(HOWS), chance.randrange(15, 60))
    return {
        "guild": (word, chance.choice("gh"), (chance.randrange(12), chance.randrange(12))),
        "house": (word, house, chance.choice("xyz"), (chance.randrange(4, 9), chance.randrange(4, 9))),
        "gang": (word, gang),
        "plan": (word, gang, now + chance.randrange(5, 30)),
        "quit": (word, chance.choice("abcdefghij")),
        "time": (word, now + chance.choice([0, 1, 1, 2, 3])),
    }.get(word, (word, house))


def first_events(chance):
    """Guilds g and h, but not always i, and some houses."""
    events = [("guild", guild, (chance.randrange(10), chance.randrange(10))) for guild in "gh"]
    return events + [("house", name, chance.choice("xyz"), some_room(chance)) for name in "opq"]


def all_events(chance, many, drawn=some_event):
    """A story of events; those that come later know how far the time has come."""
    now = 0
    events = first_events(chance)
    while len(events) < many:
        event = drawn(chance, now)
        events.append((event[0], max(event[1], 0)) if event[0] == "time" else event)
        if event[0] == "time":
            now = max(now, event[1])
    return events


class BesideThePlainHall(unittest.TestCase):
    def test_long_stories(self):
        seen = set()
        for seed in range(60):
            chance = random.Random(seed)
            grace = chance.choice([1, 2, 4, 7])
            seen |= self.words_told(Hall(2, grace), PlainHall(grace), all_events(chance, 70))
        self.assertEqual(seen, {"begun", "planned", "called", "kept", "left", "ended", "broken", "moved", "barred",
                                "Taken", "NoKind", "TooMany", "NoHouse", "InUse", "NoGuild", "Past", "NoPlan", "NoGang"})

    def test_crowded_halls(self):
        seen = set()
        for seed in range(40):
            chance = random.Random(seed)
            grace = chance.choice([3, 7, 12])
            seen |= self.words_told(Hall(2, grace), PlainHall(grace), all_events(chance, 90, crowded_event))
        self.assertTrue({"called", "kept", "left", "broken", "moved", "barred"} <= seen)

    def words_told(self, hall, plain, events):
        """The first words of all that is told by the events, by both halls alike."""
        words = set()
        for event in events:
            told = answer(hall, event)
            self.assertEqual(told, plain_answer(plain, event), event)
            self.assert_alike(hall, plain, event)
            words |= {row[0] for row in told} if isinstance(told, list) else {told.split()[0]}
        return words

    def assert_alike(self, hall, plain, where):
        for ask, wanted in plain.asks().items():
            self.assertEqual(getattr(hall, ask)(), wanted, (ask, where))
        for name in plain.folk:
            self.assertEqual(hall.gang_of(name), plain.folk[name].gang)
        estate = hall.estate_now()
        self.assertEqual(estate.house_rows(), [(name, *row) for name, row in sorted(plain.houses.items())], where)
        for time in (plain.now, plain.now + plain.grace, plain.now + 9):
            loads = [(name, tuple(plain.load(name, time))) for name in sorted(plain.houses)]
            self.assertEqual(estate.house_loads(time), loads, where)
        self.assertEqual(spare_now(hall), plain.spare(), where)
        for gang in plain.waiting():
            self.assertEqual(reason_of(hall, gang[0]), plain.reason(gang), where)
            self.assertEqual(fetch_for(hall, gang[0]), plain.fetch(gang), where)


class LongDrawnStories(unittest.TestCase):
    """What holds behind each step, whatever the events were."""

    def test_behind_each_step(self):
        reasons = set()
        for seed in range(100, 150):
            chance = random.Random(seed)
            hall = Hall(2, chance.choice([1, 3, 6]))
            plans = {}
            for event in all_events(chance, 80):
                before = all_of_hall(hall)
                told = answer(hall, event)
                if isinstance(told, str):
                    self.assertEqual(all_of_hall(hall), before, (seed, event))
                else:
                    self.assertEqual(hall.history_rows(), before[-1] + told)
                self.assert_rooms(hall)
                self.assert_fair(hall)
                self.assert_plans_kept(hall, plans, event, told)
                reasons |= self.reasons_shown(hall)
                self.assert_states(hall)
        self.assertEqual(reasons, {"never", "soon", "plans", "room"})

    def assert_rooms(self, hall):
        """No house bears more than its room, now and later."""
        estate = hall.estate_now()
        for name, yard, room, kind, state in estate.house_rows():
            self.assertIsNone(overborne(room, estate.entries_in(name)))

    def assert_fair(self, hall):
        """No one waits that could begin, or be called."""
        self.assertIsNone(unfair(hall.estate_now(), hall.due_rows(), hall.share_rows(), hall.leavable_names(),
                                 hall.waiting_gangs(), hall.time_now(), hall.grace_told()))

    def assert_plans_kept(self, hall, plans, event, told):
        """A planned one begins at its time, unless it is quit or barred ahead of that; plans are those to come."""
        if event[0] == "quit" and isinstance(told, list):
            plans.pop(event[1], None)
        for row in told if isinstance(told, list) else []:
            if row[0] == "planned":
                plans[row[2]] = row[3]
            elif row[0] == "barred":
                del plans[row[2]]
            elif row[0] == "begun" and row[2] in plans:
                self.assertEqual(plans.pop(row[2]), row[1])
        self.assertEqual(plans, {row[0]: row[2] for row in hall.gang_rows() if row[1] == "planned"})
        self.assertTrue(all(begin > hall.time_now() for begin in plans.values()))

    def reasons_shown(self, hall):
        words = set()
        for gang in hall.waiting_gangs():
            reason = reason_of(hall, gang[0])
            self.assertIs(shows_reason(hall, gang[0], reason), True)
            words.add(reason[0])
        return words

    def assert_states(self, hall):
        """How gangs stand to what is booked, and to now."""
        now = hall.time_now()
        rows = hall.gang_rows()
        booked = {row[0]: row[1:] for row in hall.estate_now().booked_rows()}
        self.assertEqual({row[0]: row[2:] for row in rows if row[1] != "waits"}, booked)
        for name, state, begin, end, placing in rows:
            gang = hall.gang_of(name)
            if state == "waits":
                self.assertEqual((begin, end, placing), (None, None, ()))
                continue
            self.assertEqual(sum(n for house, n in placing), gang[3])
            self.assertEqual(begin <= now, state in ("goes", "leaves"))
            self.assertGreater(end, now)
            self.assertEqual(end < begin + gang[6], state == "leaves")
        self.assertEqual(sorted(row[0] for row in hall.taking_rows()), [row[0] for row in rows if row[1] == "leaves"])
        self.assertEqual(hall.leavable_names(), [row[0] for row in rows if row[1] == "goes"])
        self.assertEqual(sorted(gang[0] for gang, number in hall.share_rows()),
                         [row[0] for row in rows if row[1] in ("goes", "called")])


class SomewhatBeyondTheBounds(unittest.TestCase):
    """What comes of it isn't promised, but it raises no error beside the refusals that are told."""

    REFUSALS = {"house": {"Taken"}, "kind": {"Taken"}, "fetch": {"NoKind", "Taken", "TooMany"}, "shut": {"NoHouse"},
                "open": {"NoHouse"}, "let": {"NoHouse", "InUse"}, "fall": {"NoHouse"}, "gang": {"Taken", "NoGuild"},
                "plan": {"Taken", "NoGuild", "Past", "NoPlan"}, "quit": {"NoGang"}, "time": {"Past"}, "guild": set()}

    def odd_event(self, chance, now):
        event = some_event(chance, now)
        gang = (chance.choice("abcdefghij"), chance.choice("gh"), chance.randrange(-1, 11), chance.choice([0, 1, 2, 3, 61]),
                chance.choice(WANTS + ((0, 0),)), chance.choice(HOWS), chance.choice([0, 1, 5, 20, 40]))
        return (event[0], gang, *event[2:]) if event[0] in ("gang", "plan") else event

    def test_tasks_lengths_ranks_and_graces(self):
        for seed in range(60):
            chance = random.Random(seed)
            hall = Hall(2, chance.choice([0, 1, 3, 1001]))
            for event in all_events(chance, 70, self.odd_event):
                there = [row[0] for row in hall.gang_rows()]
                told = answer(hall, event)
                if isinstance(told, str):
                    self.assertIn(told.split()[0], self.REFUSALS[event[0]], (seed, event))
                    self.assertFalse(event[0] == "quit" and event[1] in there, (seed, event))
                all_of_hall(hall)
                spare_now(hall)
                for gang in hall.waiting_gangs():
                    shows_reason(hall, gang[0], reason_of(hall, gang[0]))
                    fetch_for(hall, gang[0])

    def test_more_of_all_than_a_hall_should_have(self):
        names = [one + other for one in "abcdefgh" for other in "abcdefgh"]
        hall = Hall(9, 5)
        for name in names:
            hall.step(("guild", name, (1,) * 9))
            hall.step(("house", name, name, (2,) * 9))
            hall.step(("kind", name, name, (2,) * 9, 41))
        for name in names:
            hall.step(("gang", (name, name, 9, 2, (1,) * 9, "any", 10 ** 6 + 1)))
            hall.step(("plan", (name + "x", name, 9, 1, (1,) * 9, "any", 10 ** 6 + 1), 2 * 10 ** 9))
        self.assertEqual(len(hall.gang_rows()), 128)
        hall.step(("time", 10 ** 6 + 1))
        self.assertEqual([row[1] for row in hall.gang_rows()], ["planned"] * 64)


class TheSameAgain(unittest.TestCase):
    def test_the_same_events_come_to_the_same(self):
        for seed in range(20):
            events = all_events(random.Random(seed), 60)
            one, other = Hall(2, 3), Hall(2, 3)
            for event in events:
                self.assertEqual(answer(one, event), answer(other, event))
            self.assertEqual(all_of_hall(one), all_of_hall(other))

    def test_what_is_told_may_be_spoilt(self):
        for seed in range(20):
            spoilt, left = Hall(2, 3), Hall(2, 3)
            for event in all_events(random.Random(seed), 60):
                told = answer(spoilt, event)
                self.assertEqual(told, answer(left, event))
                self.spoil(spoilt, [told] if isinstance(told, list) else [])
            self.assertEqual(all_of_hall(spoilt), all_of_hall(left))

    def spoil(self, hall, lists):
        """Asks for all there is, and spoils what was told."""
        for gang in hall.waiting_gangs():
            shows_reason(hall, gang[0], reason_of(hall, gang[0]))
            fetch_for(hall, gang[0])
        for turn in range(2):
            lists += [getattr(hall, ask)() for ask in LIST_ASKS] + [spare_now(hall)]
        self.assertEqual(len({id(one) for one in lists}), len(lists))
        for one in lists:
            one.clear()
        estate = hall.estate_now()
        for row in estate.house_rows():
            estate.drop_house(row[0])
        estate.add_house("zz", "x", (9, 9), None)

    def test_twins_stay_as_they_were(self):
        hall = Hall(2, 3)
        kept = []
        for event in all_events(random.Random(4), 80):
            answer(hall, event)
            estate = hall.estate_now()
            kept.append((estate, all_of(estate), hall.history_rows(), hall.history_rows()))
        for estate, told, history, same in kept:
            self.assertEqual(all_of(estate), told)
            self.assertEqual(history, same)


if __name__ == "__main__":
    unittest.main()
