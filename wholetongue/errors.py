"""All that the program refuses by."""


class WholeError(ValueError):
    """Any refusal."""


class Fault(WholeError):
    """A text's fault, as a stage finds it: which stage, in which file, at which place, and why."""

    def __init__(self, stage, file, place, why):
        self.stage = stage
        self.file = file
        self.place = place
        self.why = why


class BadHouse(WholeError):
    """What is no house, or a file that a house hasn't."""


class BadRows(WholeError):
    """Rows that there aren't, or new ones with line ends."""


class NoFile(WholeError):
    """A file that isn't there."""


class NotMade(WholeError):
    """Nothing was made yet."""


class NoDef(WholeError):
    """A def that can't be run, or that isn't there."""


class NoRow(WholeError):
    """A row at which no row of text begins."""


class BadCount(WholeError):
    """A count of rows beyond what may be."""


class Ended(WholeError):
    """A run that stands behind the end."""


class BadDepth(WholeError):
    """A depth at which there's no call."""


class NoName(WholeError):
    """A place at which no name stands."""


class BadName(WholeError):
    """What is no name."""


class Taken(WholeError):
    """A name that means another thing already."""
