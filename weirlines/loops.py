"""Orders that are done again and again: what rows tend to then, and how fast."""

from weirlines.exact import exact, plus, reduced, times
from weirlines.rows import check_order, check_row, check_width, line_of, with_volumes


class Settles:
    """The row comes to its limit; `rounds` is the least number of rounds behind which it has."""

    def __init__(self, rounds):
        self.rounds = rounds

    def __eq__(self, other):
        return isinstance(other, Settles) and self.rounds == other.rounds

    def __bool__(self):
        return True

    def shows(self, row, order):
        return settling(row, order) == self


class Tends:
    """The row never comes to its limit; `width` is left behind as many rounds as there are basins."""

    def __init__(self, width):
        self.width = width

    def __eq__(self, other):
        return isinstance(other, Tends) and self.width == other.width

    def __bool__(self):
        return False

    def shows(self, row, order):
        return settling(row, order) == self


def runs(row, order):
    """The runs of basins that an order joins, as pairs of the first basin and the one behind the last one."""
    check_row(row)
    openings = check_order(row, order)
    ends = [weir for weir in range(1, len(row)) if weir not in openings]
    return list(zip([0, *ends], [*ends, len(row)]))


def limit_heights(row, found):
    """The heights to which all tends, for each basin, by the runs."""
    heights = []
    for first, end in found:
        water = (0, 1)
        for basin in range(first, end):
            water = plus(water, row[basin])
        height = times(water, (1, sum(row.areas[first:end])))
        heights.extend([height for _ in range(first, end)])
    return heights


def limit(row, order):
    """The row that all tends to: even heights in each run."""
    heights = limit_heights(row, runs(row, order))
    return with_volumes(row, [times(height, (area, 1)) for height, area in zip(heights, row.areas)])


def farthest(line, heights):
    """The greatest difference of heights from told ones: a pair that is to be put over the line's bottom, too."""
    most, below = 0, 1
    for basin, (top, under) in enumerate(heights):
        area = line.areas[basin]
        off = abs(line.inside(basin) * under - area * top * line.bottom)
        if off * below > most * area * under:
            most, below = off, area * under
    return most, below


def do_round(line, openings):
    for weir in openings:
        line.even(weir)


def settling(row, order):
    """Whether a row comes to its limit behind some number of rounds, and when, or what is left."""
    heights = limit_heights(row, runs(row, order))
    line = line_of(row)
    for rounds in range(len(row)):
        if farthest(line, heights)[0] == 0:
            return Settles(rounds)
        do_round(line, order)
    # Differences have one dimension less than there are basins, so what is left by now never goes.
    most, below = farthest(line, heights)
    return Tends(reduced(most, below * line.bottom))


def rounds_within(row, order, width):
    """The least number of rounds behind which all heights are within a width of the limit's."""
    heights = limit_heights(row, runs(row, order))
    check_width(width)
    top, under = exact(width)
    line = line_of(row)
    rounds = 0
    most, below = farthest(line, heights)
    while most * under > top * below * line.bottom:
        do_round(line, order)
        rounds += 1
        most, below = farthest(line, heights)
    return rounds
