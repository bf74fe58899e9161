"""The errors of the package: DriftError, and directly below it all the others."""


class DriftError(ValueError):
    """Any error of the package; it keeps its only argument as value."""

    def __init__(self, value):
        self.value = value


class BadBook(DriftError):
    """A text is none of a book."""


class BadPair(DriftError):
    """A value is no pair of lengths."""


class NoRegion(DriftError):
    """A value is not the word of a region."""


class BadStep(DriftError):
    """A value is no step of the region."""


class BadShare(DriftError):
    """A value is no share."""


class Full(DriftError):
    """A region would have too many steps."""


class Border(DriftError):
    """A book is not plain."""


class BadPaper(DriftError):
    """A value is no paper that is right."""


class NoSide(DriftError):
    """A value is not the word of a side."""


class Leaves(DriftError):
    """A walk does not stay beside a side."""


class BadNumber(DriftError):
    """A value is no number of shares."""


class BadPlace(DriftError):
    """A value is no place of a far way."""


class Corner(DriftError):
    """A place is the one where a far way ends."""


class Away(DriftError):
    """A far way never ends."""


class BadTime(DriftError):
    """A value is no time."""


class BadTicks(DriftError):
    """A value is no number of ticks."""


class BadCorner(DriftError):
    """A value is no corner."""


class BadAmount(DriftError):
    """A value is no amount of a step's chance."""


class BadChances(DriftError):
    """Values are no chances that add up to 1."""


class Loop(DriftError):
    """Nobody would ever go away."""


class BadTable(DriftError):
    """A value is no table of powers."""


class Loads(DriftError):
    """Loads are not below 1."""


class NothingToUndo(DriftError):
    """No deed stands."""


class NothingToRedo(DriftError):
    """No deed was taken back."""


class NoTrial(DriftError):
    """No trial is going on."""


class BadJournal(DriftError):
    """A text is none of a journal."""


class BadWords(DriftError):
    """A line is none that a desk knows."""
