"""Where water comes from: what becomes of each basin's water in an order."""

from weirlines.exact import common_bottom, total_of
from weirlines.rows import behind, check_areas, check_order, check_row
from weirlines.sameness import lone_row


class Shares:
    """The parts of each basin's water that stand in the basins behind an order: a tuple for each, in `columns`."""

    def __init__(self, columns):
        self.columns = list(columns)

    def __eq__(self, other):
        return isinstance(other, Shares) and self.columns == other.columns

    def __bool__(self):
        return True

    def shows(self, areas, order, *, locks=()):
        return shares(areas, order, locks=locks) == self

    def overtaken(self):
        """The first two basins and two places by which water of the earlier basin overtakes, None if there are none."""
        tops = [over_one_bottom(column) for column in self.columns]
        for one in range(len(tops)):
            for other in range(one + 1, len(tops)):
                found = crossing(tops[one], tops[other])
                if found is not None:
                    return one, other, found[0], found[1]
        return None

    def ahead(self, place):
        """The parts of each basin's water that stand in the first basins."""
        return [total_of(column[:place]) for column in self.columns]


def over_one_bottom(fractions):
    """Integers that are to one another as some fractions."""
    bottom = common_bottom(fractions)
    return [top * (bottom // under) for top, under in fractions]


def crossing(earlier, later):
    """The first two places where the parts of an earlier basin have overtaken those of a later one, or None."""
    for first in range(len(earlier)):
        for second in range(first + 1, len(earlier)):
            if earlier[first] * later[second] < earlier[second] * later[first]:
                return first, second
    return None


def shares(areas, order, *, locks=()):
    """The parts of each basin's water that stand in the basins behind an order."""
    check_areas(areas)
    return Shares([behind(lone_row(areas, basin, locks), order).volumes for basin in range(len(areas))])


def sources(row, order, basin):
    """The first basin, and the one behind the last one, of those whose water comes to a basin in an order."""
    check_row(row)
    openings = check_order(row, order)
    first, end = basin, basin + 1
    # Looked at from the last opening back, one at either end, or inside, hands on what stands on both its sides.
    for weir in openings[::-1]:
        if first <= weir <= end:
            first, end = min(first, weir - 1), max(end, weir + 1)
    return first, end
