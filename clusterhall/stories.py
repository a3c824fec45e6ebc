"""Stories: events and asks written in rows, and the answers to them."""

from clusterhall.errors import InUse, NoGang, NoGuild, NoHouse, NoKind, NoPlan, Past, Taken, TooMany
from clusterhall.gangs import name_of
from clusterhall.hall import WAITS, Hall
from clusterhall.reasons import fetch_for, reason_of, spare_now
from clusterhall.story_rows import read_story

NOTHING = "-"


def joined(texts, between):
    """Texts with another one between each two of them; a dash where there are none."""
    return between.join(texts) if texts else NOTHING


def names_text(names):
    """Names as they stand in an answer."""
    return joined(names, ",")


def pairs_text(pairs):
    """A placing, counts, or names with grounds, as they stand in an answer."""
    return joined([f"{one}:{other}" for one, other in pairs], ",")


def amount_text(amount):
    """An amount as it stands in an answer."""
    return joined([str(n) for n in amount], "/")


def word_text(part):
    """A name, a number or pairs, as they stand in an answer."""
    return pairs_text(part) if isinstance(part, tuple) else str(part)


def row_text(row):
    """The words of a row of names, numbers and pairs."""
    return joined([word_text(part) for part in row], " ")


def things_text(texts):
    """An answer of several things."""
    return joined(texts, "; ")


def gang_text(row):
    """A row of gang_rows: of one that waits there is nothing more to tell."""
    return row_text(row[:2]) if row[1] == WAITS else row_text(row)


def house_text(row):
    """A row of house_rows."""
    name, yard, room, kind, state = row
    return row_text((name, yard, amount_text(room), NOTHING if kind is None else kind, state))


def load_text(row):
    """A row of house_loads."""
    name, load = row
    return row_text((name, amount_text(load)))


def reason_text(reason):
    """A reason: its first word, names where it has any, and pairs where it has any."""
    match reason:
        case ("plans", names, bars):
            return row_text(("plans", names_text(names), names_text(bars)))
        case ("room", names, counts):
            return row_text(("room", names_text(names), counts))
    return row_text(reason)


def why_answer(hall, name):
    """Why a gang waits."""
    try:
        return reason_text(reason_of(hall, name))
    except NoGang:
        return "refused NoGang"


def fetches_answer(hall, name):
    """What is best to be fetched for a gang that waits."""
    try:
        fetch = fetch_for(hall, name)
    except NoGang:
        return "refused NoGang"
    return NOTHING if fetch is None else row_text(fetch)


def event_answer(hall, event):
    """What happened by an event, or the class of its refusal."""
    try:
        return things_text([row_text(row) for row in hall.step(event)])
    except InUse:
        return "refused InUse"
    except NoGang:
        return "refused NoGang"
    except NoGuild:
        return "refused NoGuild"
    except NoHouse:
        return "refused NoHouse"
    except NoKind:
        return "refused NoKind"
    except NoPlan:
        return "refused NoPlan"
    except Past:
        return "refused Past"
    except Taken:
        return "refused Taken"
    except TooMany:
        return "refused TooMany"


def answer_to(hall, row):
    """The answer to a row: all that aren't asks are events."""
    match row:
        case ("now",):
            return str(hall.time_now())
        case ("waiting",):
            return names_text([name_of(gang) for gang in hall.waiting_gangs()])
        case ("gangs",):
            return things_text([gang_text(told) for told in hall.gang_rows()])
        case ("houses",):
            return things_text([house_text(told) for told in hall.estate_now().house_rows()])
        case ("load", time):
            return things_text([load_text(told) for told in hall.estate_now().house_loads(time)])
        case ("why", name):
            return why_answer(hall, name)
        case ("takings",):
            return things_text([row_text(told) for told in hall.taking_rows()])
        case ("barred",):
            return things_text([row_text(told) for told in hall.barred_rows()])
        case ("fetches", name):
            return fetches_answer(hall, name)
        case ("spare",):
            return names_text(spare_now(hall))
    return event_answer(hall, row)


def run(text):
    """The answers to all rows of a story behind the first one; refused with BadRow."""
    rows = read_story(text)
    word, wares, grace = rows[0]
    hall = Hall(wares, grace)
    answers = []
    for row in rows[1:]:
        answers.append(answer_to(hall, row))
    return answers
