"""Names, and amounts: tuples with a number from 0 on for each ware."""

LETTERS = "abcdefghijklmnopqrstuvwxyz"
LONGEST_NAME = 8


def is_name(word):
    """Whether a text is a NAME: one to eight small letters a to z."""
    return 1 <= len(word) <= LONGEST_NAME and all(sign in LETTERS for sign in word)


def nothing_of(wares):
    """The amount of so many noughts."""
    return (0,) * wares


def amount_sum(one, other):
    """Both amounts together."""
    return tuple([a + b for a, b in zip(one, other)])


def amount_less(one, other):
    """One less other, which fits in one."""
    return tuple([a - b for a, b in zip(one, other)])


def amount_fits(one, other):
    """Whether in no ware one is more than other."""
    return all(a <= b for a, b in zip(one, other))


def amount_times(one, n):
    """An amount n times."""
    return tuple([a * n for a in one])


def amount_least(one, other):
    """Ware by ware the lesser of both amounts."""
    return tuple([a if a < b else b for a, b in zip(one, other)])


def most_times(want, room):
    """How often a want, which isn't all noughts, fits in a room at most."""
    # A ware that isn't wanted sets no bound. Where none is wanted there is no greatest number: 0 only avoids an error.
    return min([have // need for need, have in zip(want, room) if need > 0], default=0)
