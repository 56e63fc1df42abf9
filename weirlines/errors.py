"""The errors of weirlines, one class for each kind of failure."""


class WeirError(ValueError):
    """Anything that weirlines refuses."""


class BadRow(WeirError):
    """Not a row, or not what a row is made of."""


class BadWeir(WeirError):
    """Not a weir, or not one that can be opened; `number` is None if it is no integer."""

    def __init__(self, number):
        super().__init__("no weir that can be opened here")
        self.number = number


class BadOrder(WeirError):
    """Not an order; `place` is that of the first opening that is none, None if it is no such list at all."""

    def __init__(self, place):
        super().__init__("no order of weirs that can be opened here")
        self.place = place


class BadNumber(WeirError):
    """A number that is not of the kind, or not within the limits, that are asked for."""


class Unlike(WeirError):
    """Two rows that do not belong together; `what` tells in what they are unlike."""

    def __init__(self, what):
        super().__init__("two rows that do not belong together")
        self.what = what


class NotFalling(WeirError):
    """A row that does not fall; `number` is the first weir at which it rises."""

    def __init__(self, number):
        super().__init__("the row rises at a weir")
        self.number = number


class NoOrder(WeirError):
    """What is asked for would need an order, or a state, that there is not."""
