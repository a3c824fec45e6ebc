"""The refusals of the hall: each one stands straight under HallError."""


class HallError(ValueError):
    """What all refusals have in common."""


class Taken(HallError):
    """A name or a key is in use already."""


class NoKey(HallError):
    """A book has no entry of the key."""


class TooMuch(HallError):
    """Entries would come to more than the room; time is the first time at which they would."""

    def __init__(self, words, time):
        super().__init__(words)
        self.time = time


class NoHouse(HallError):
    """There is no house of the name."""


class NoGang(HallError):
    """There is no gang of the name."""


class NoGuild(HallError):
    """There is no guild of the name."""


class NoKind(HallError):
    """There is no kind of the name."""


class InUse(HallError):
    """A house can't be let go, as its book has entries."""


class TooMany(HallError):
    """All houses that a kind may have are there."""


class NoPlan(HallError):
    """A gang can't be placed at the time planned; counts are those of the houses then."""

    def __init__(self, words, counts):
        super().__init__(words)
        self.counts = counts


class Past(HallError):
    """A time is over already."""


class BadRow(HallError):
    """A story isn't written as it should be; row is the number of the first row at fault."""

    def __init__(self, words, row):
        super().__init__(words)
        self.row = row
