"""The heights that a round of openings lets be, on a coast that it washes."""

from math import gcd

from weirlines.exact import common_bottom, reduced


class Mixture:
    """Heights behind openings, told by those ahead of them.

    A basin's mixture is a list of integers, over a bottom: how many times its height has that of each basin ahead,
    and last what it has from seas. All bottoms divide the common one, `bottom`, and a mixture is brought to it only
    when it is used. `levels` are the heights of the seas by their weirs, as integers.
    """

    def __init__(self, areas, levels):
        many = len(areas)
        self.areas = areas
        self.levels = levels
        self.bottom = 1
        self.bottoms = [1 for _ in areas]
        self.parts = [[int(at == basin) for at in range(many + 1)] for basin in range(many)]

    def mixture(self, basin):
        """The mixture of a basin, over the common bottom."""
        if self.bottoms[basin] != self.bottom:
            more = self.bottom // self.bottoms[basin]
            self.put(basin, [part * more for part in self.parts[basin]])
        return self.parts[basin]

    def put(self, basin, parts):
        self.parts[basin] = parts
        self.bottoms[basin] = self.bottom

    def open_weir(self, weir):
        if weir in self.levels:
            basin = min(weir, len(self.areas) - 1)
            self.put(basin, [0 for _ in self.areas] + [self.levels[weir] * self.bottom])
            return
        shared = gcd(self.areas[weir - 1], self.areas[weir])
        first, second = self.areas[weir - 1] // shared, self.areas[weir] // shared
        before, behind = self.mixture(weir - 1), self.mixture(weir)
        if before == behind:
            return
        even = [first * own + second * other for own, other in zip(before, behind)]
        self.bottom = self.bottom * (first + second)
        self.put(weir - 1, even)
        self.put(weir, even)

    def equation(self, basin):
        """What tells that a basin has the same height ahead and behind: factors of all heights, and their sum."""
        told = self.mixture(basin)
        factors = [-part for part in told[:-1]]
        factors[basin] += self.bottom
        return [*factors, told[-1]]


def kept_heights(areas, seas, openings):
    """The heights that openings let be, told the heights of the seas by their weirs, if each basin is washed."""
    heights = list(seas.values())
    if heights[0] == heights[-1]:
        return [heights[0] for _ in areas]
    unit = common_bottom(heights)
    levels = {weir: seas[weir][0] * (unit // seas[weir][1]) for weir in seas}
    round_told = Mixture(areas, levels)
    for weir in openings:
        round_told.open_weir(weir)
    equations = [round_told.equation(basin) for basin in range(len(areas))]
    found, bottom = solved(equations, round_told.bottom)
    return [reduced(top, bottom * unit) for top in found]


def solved(equations, bottom):
    """The numbers that solve the equations of a mixture, as integers that are to be put over one more.

    Each row is cleared of a number by the rows above. The rows are integers all the way, and hardly longer at the
    end than at the beginning: each opening can be told by an equation of its own with short factors, and what comes
    up here are determinants of these, times the product of the bottoms of all openings, which is the first divisor.
    What a row is cleared by is never 0, for openings that wash each basin keep less than all of any basins' water.
    """
    rows = [list(equation) for equation in equations]
    divisor = bottom
    for at in range(len(rows)):
        for below in range(at + 1, len(rows)):
            rows[below] = cleared(rows[below], rows[at], at, divisor)
        divisor = rows[at][at]
    found = []
    for at in reversed(range(len(rows))):
        known = sum([factor * number for factor, number in zip(rows[at][at + 1:], found)])
        found.insert(0, (rows[at][-1] * divisor - known) // rows[at][at])
    return found, divisor


def cleared(row, by, at, divisor):
    """A row with 0 in a place, by another one that is not 0 there."""
    pairs = zip(row[at + 1:], by[at + 1:])
    return [0 for _ in range(at + 1)] + [(by[at] * own - row[at] * other) // divisor for own, other in pairs]
