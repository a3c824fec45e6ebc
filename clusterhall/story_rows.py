"""Reading a story: what each of its rows says, or which one of them isn't written as it should be."""

from clusterhall.amounts import is_name
from clusterhall.errors import BadRow

MOST_ROWS = 300
MOST_SIGNS = 200
FIGURES = "0123456789"
HOWS = ("any", "apart", "near", "wide")
BOUNDS = {
    "wares": (1, 8),
    "grace": (1, 1000),
    "worth": (0, 10 ** 12),
    "most": (1, 40),
    "rank": (0, 9),
    "many": (1, 60),
    "length": (1, 10 ** 6),
    "time": (0, 10 ** 9),
}
# What stands behind the first word of a row: the kinds of its other words.
FORMS = {
    "hall": ("wares", "grace"),
    "guild": ("name", "amount"),
    "house": ("name", "name", "amount"),
    "kind": ("name", "name", "amount", "most"),
    "fetch": ("name", "name"),
    "shut": ("name",),
    "open": ("name",),
    "let": ("name",),
    "fall": ("name",),
    "gang": ("name", "name", "rank", "many", "want", "how", "length"),
    "plan": ("name", "name", "rank", "many", "want", "how", "length", "time"),
    "quit": ("name",),
    "time": ("time",),
    "now": (),
    "waiting": (),
    "gangs": (),
    "houses": (),
    "load": ("time",),
    "why": ("name",),
    "takings": (),
    "barred": (),
    "fetches": ("name",),
    "spare": (),
}


def is_sign(sign):
    """Whether a sign may stand in a row: those from the blank to the tilde, but the one between $ and &."""
    return " " <= sign <= "$" or "&" <= sign <= "~"


def number_of(word, kind):
    """The number that a word stands for, within the bounds of its kind; None where it isn't one."""
    if not word or not all(sign in FIGURES for sign in word):
        return None
    if word[0] == "0" and word != "0":
        return None
    least, most = BOUNDS[kind]
    return int(word) if least <= int(word) <= most else None


def amount_of(word, wares):
    """The amount that a word stands for; None where it isn't one."""
    worths = tuple(number_of(part, "worth") for part in word.split("/"))
    return None if len(worths) != wares or None in worths else worths


def worth_of(word, kind, wares):
    """What a word of a kind stands for; None where it isn't one of that kind."""
    if kind == "name":
        return word if is_name(word) else None
    if kind == "how":
        return word if word in HOWS else None
    if kind == "amount":
        return amount_of(word, wares)
    if kind == "want":
        want = amount_of(word, wares)
        return None if want is None or not any(want) else want
    return number_of(word, kind)


def worths_of(words, kinds, wares):
    """What words of these kinds stand for, a tuple; None where they aren't so written."""
    if len(words) != len(kinds):
        return None
    worths = tuple(worth_of(word, kind, wares) for word, kind in zip(words, kinds))
    return None if None in worths else worths


def with_gang(word, worths):
    """The tuple of a row: that of its words, but a gang's seven are one tuple of its own."""
    if word == "gang":
        return (word, worths)
    if word == "plan":
        return (word, worths[:-1], worths[-1])
    return (word, *worths)


def read_row(line, wares):
    """What a row says, as a tuple, or None where it isn't so written; wares is None ahead of the hall row."""
    if len(line) > MOST_SIGNS or not all(is_sign(sign) for sign in line):
        return None
    # Blanks at an end or side by side make empty words, and no word of any kind is empty.
    word, *words = line.split(" ")
    if word not in FORMS or (word == "hall") != (wares is None):
        return None
    worths = worths_of(words, FORMS[word], wares)
    return None if worths is None else with_gang(word, worths)


def read_story(text):
    """What all rows say that aren't empty, the hall row first; refused with BadRow."""
    lines = text.split("\n")
    rows = []
    wares = None
    for at, line in enumerate(lines):
        if at < MOST_ROWS and not line:
            continue
        row = read_row(line, wares) if at < MOST_ROWS else None
        if row is None:
            raise BadRow(f"row {at} isn't written as it should be", at)
        rows.append(row)
        wares = rows[0][1]
    if not rows:
        raise BadRow("there are only empty rows", len(lines))
    return rows
