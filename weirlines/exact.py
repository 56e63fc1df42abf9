"""Exact fractions, as pairs without a common divisor, and lines of points with such heights."""

from math import gcd, lcm


def is_integer(thing):
    return isinstance(thing, int) and not isinstance(thing, bool)


def is_fraction(thing):
    """Whether something tells a fraction: an integer, or a pair of integers, the second one from 1 on."""
    if not isinstance(thing, tuple):
        return is_integer(thing)
    return len(thing) == 2 and is_integer(thing[0]) and is_integer(thing[1]) and thing[1] >= 1


def is_amount(thing):
    """Whether something tells a fraction from 0 on."""
    return is_fraction(thing) and (thing[0] if isinstance(thing, tuple) else thing) >= 0


def reduced(top, bottom):
    """The pair without a common divisor, for a bottom from 1 on."""
    shared = gcd(top, bottom)
    return (top // shared, bottom // shared)


def exact(told):
    """The pair of a fraction that is told as an integer or as a pair."""
    if isinstance(told, tuple):
        return reduced(told[0], told[1])
    return (told, 1)


def is_exact(thing):
    """Whether something is a fraction as it is returned: a pair without a common divisor."""
    return isinstance(thing, tuple) and is_fraction(thing) and exact(thing) == thing


def plus(one, other):
    # Only what the bottoms share can be left to reduce, which spares a division of the long numbers.
    shared = gcd(one[1], other[1])
    top = one[0] * (other[1] // shared) + other[0] * (one[1] // shared)
    rest = gcd(top, shared)
    return (top // rest, one[1] // shared * (other[1] // rest))


def minus(one, other):
    return plus(one, (-other[0], other[1]))


def times(one, other):
    # Reducing crosswise ahead of the product keeps the numbers short.
    left = gcd(one[0], other[1])
    right = gcd(other[0], one[1])
    return ((one[0] // left) * (other[0] // right), (one[1] // right) * (other[1] // left))


def is_less(one, other):
    return one[0] * other[1] < other[0] * one[1]


def largest(fractions):
    """The greatest of some fractions, at least one."""
    most = fractions[0]
    for number in fractions:
        if is_less(most, number):
            most = number
    return most


def total_of(fractions):
    total = (0, 1)
    for number in fractions:
        total = plus(total, number)
    return total


def common_bottom(fractions):
    """The least number that the bottoms of all these fractions divide."""
    bottom = 1
    for _, below in fractions:
        bottom = lcm(bottom, below)
    return bottom


class Line:
    """The line of a row: the points of the area and the water of its first 0, 1, .. basins.

    The water is held as integers over bottoms. All bottoms divide the common one, `bottom`, and a point is
    brought to it only when it is used: this needs no common divisors of long numbers, however long an order is.
    It is a multiple of the bottoms of some other fractions, too, if these are told.
    """

    def __init__(self, areas, sums, others=()):
        bottom = common_bottom([*sums, *others])
        self.areas = areas
        self.bottom = bottom
        self.tops = [top * (bottom // below) for top, below in sums]
        self.bottoms = [bottom for _ in sums]

    def top(self, at):
        """The water in so many first basins, over the common bottom."""
        if self.bottoms[at] != self.bottom:
            self.tops[at] = self.tops[at] * (self.bottom // self.bottoms[at])
            self.bottoms[at] = self.bottom
        return self.tops[at]

    def even(self, weir):
        """Opens a weir: its point comes to the straight line through the points beside it."""
        first, second = self.areas[weir - 1], self.areas[weir]
        top = second * self.top(weir - 1) + first * self.top(weir + 1)
        shared = gcd(top, first + second)
        self.bottom = self.bottom * ((first + second) // shared)
        self.tops[weir] = top // shared
        self.bottoms[weir] = self.bottom

    def inside(self, basin):
        """The water in one basin, over the common bottom."""
        return self.top(basin + 1) - self.top(basin)

    def water(self):
        """The fractions of the water in each basin."""
        return [reduced(self.inside(basin), self.bottom) for basin in range(len(self.areas))]
