"""The refusals, a class for each kind of them."""


class FenError(ValueError):
    """Any refusal."""


class BadName(FenError):
    """A name that isn't 1 to 8 small letters."""


class Taken(FenError):
    """There is a mark or a hand of this name already."""


class Full(FenError):
    """There is no room for another one."""


class NoMark(FenError):
    """There is no mark of this name."""


class NoHand(FenError):
    """There is no hand of this name."""


class Same(FenError):
    """Two that should be unlike are one."""


class BadRise(FenError):
    """A rise beyond the bounds."""


class NoRun(FenError):
    """No run of this number stands."""


class Aside(FenError):
    """The hand is set aside already."""


class NotAside(FenError):
    """The hand isn't set aside."""


class BadNumber(FenError):
    """A number of false hands beyond the bounds."""


class NothingLeft(FenError):
    """There is nothing to take back, or to do again."""


class Steady(FenError):
    """The mark has never settled."""


class NoDeed(FenError):
    """A text that isn't a deed's row."""


class Known(FenError):
    """There is a fen of this name already."""


class NoFen(FenError):
    """There is no fen of this name."""


class Settled(FenError):
    """A mark has settled, so that its fen can't be joined."""


class NoPage(FenError):
    """A text that isn't a fen's page; the row is the number of the first wrong one."""

    def __init__(self, row):
        self.row = row
