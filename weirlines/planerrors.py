"""The errors of programs, texts and books, one class for each kind of failure."""

from weirlines.errors import WeirError


class BadProgram(WeirError):
    """Not a program; `place` is that of the first round that is none, None if it is no such list at all."""

    def __init__(self, place):
        super().__init__("no program of rounds")
        self.place = place


class BadStart(WeirError):
    """Not what a program can be done on, or asked about."""


class BadText(WeirError):
    """A text that cannot be read on from a line and a column."""

    def __init__(self, line, column):
        super().__init__("the text cannot be read on from here")
        self.line = line
        self.column = column


class NoName(WeirError):
    """Not a name, or not one that can be used here."""

    def __init__(self, name):
        super().__init__("no name that can be used here")
        self.name = name


class Claimed(WeirError):
    """What would break a claim; `number` is that of the first claim that it would break."""

    def __init__(self, number):
        super().__init__("this would break a claim")
        self.number = number


class NothingDone(WeirError):
    """There is no change that can be undone."""


class Mixed(WeirError):
    """Rounds to the right and rounds to the left, where only those of one kind may be."""
