"""Coasts: rows of basins with seas at their ends, which never change their heights."""

from weirlines.bounds import highest, lowest
from weirlines.errors import BadNumber, BadRow, BadWeir, NoOrder
from weirlines.exact import Line, exact, is_amount, is_integer, largest, minus, reduced, times
from weirlines.rows import check_order, check_place, check_row, with_volumes
from weirlines.washing import kept_heights


class Coast:
    """A row without locks, with the heights of the seas on its left and on its right, None where there is none."""

    def __init__(self, row, left=None, right=None):
        check_row(row)
        if row.locks:
            raise BadRow("a coast has no locks")
        self.row = with_volumes(row, row.volumes)
        self.left = sea_height(left)
        self.right = sea_height(right)

    def __contains__(self, weir):
        if not is_integer(weir):
            return False
        if weir == 0:
            return self.left is not None
        if weir == len(self.row):
            return self.right is not None
        return 0 < weir < len(self.row)

    def __eq__(self, other):
        return (isinstance(other, Coast) and self.row == other.row and self.left == other.left
                and self.right == other.right)

    def opened(self, weir):
        """The coast behind an opening."""
        if weir not in self:
            raise BadWeir(weir if is_integer(weir) else None)
        return with_line(self, line_behind(self, [weir]))


class Cycle:
    """What a round lets be: `volumes`, and `flow`, the water that it then brings in from the left, less what goes."""

    def __init__(self, volumes, flow):
        self.volumes = volumes
        self.flow = flow

    def __eq__(self, other):
        return isinstance(other, Cycle) and self.volumes == other.volumes and self.flow == other.flow

    def __bool__(self):
        return True

    def shows(self, coast, order):
        return cycle(coast, order) == self


class SeaLine(Line):
    """The line of a coast. An opening at a sea brings the point at that end to the straight line from the point beside
    it that rises as the height of the sea: so the first point falls by the water that comes in from the left."""

    def __init__(self, coast):
        self.left = coast.left
        self.right = coast.right
        seas = [height for height in (coast.left, coast.right) if height is not None]
        super().__init__(coast.row.areas, coast.row.sums(), seas)

    def even(self, weir):
        last = len(self.areas)
        if weir == 0:
            self.end_at(0, self.top(1) - self.rise(self.left, self.areas[0]))
        elif weir == last:
            self.end_at(last, self.top(last - 1) + self.rise(self.right, self.areas[-1]))
        else:
            super().even(weir)

    def rise(self, height, area):
        """The water of an area that is filled to the height of a sea, over the common bottom."""
        return area * height[0] * (self.bottom // height[1])

    def end_at(self, at, top):
        self.tops[at] = top
        self.bottoms[at] = self.bottom


def sea_height(told):
    """The height of a sea as a pair, None if there is no sea."""
    if told is None:
        return None
    if not is_amount(told):
        raise BadNumber("the height of a sea is a fraction from 0 on")
    return exact(told)


def check_coast(coast):
    if not isinstance(coast, Coast):
        raise BadRow("a coast is asked for")


def line_behind(coast, openings):
    line = SeaLine(coast)
    for weir in openings:
        line.even(weir)
    return line


def with_line(coast, line):
    """The coast with the water of a line."""
    return Coast(with_volumes(coast.row, line.water()), coast.left, coast.right)


def after(coast, order):
    """The coast behind an order."""
    check_coast(coast)
    return with_line(coast, line_behind(coast, check_order(coast, order)))


def inflow(coast, order):
    """How much water an order brings in from the left, less what goes out there."""
    check_coast(coast)
    line = line_behind(coast, check_order(coast, order))
    return reduced(-line.top(0), line.bottom)


def is_washed(coast, order):
    """Whether an order joins each basin to a sea."""
    check_coast(coast)
    opened = set(check_order(coast, order))
    # Two weirs that are not opened, those at the ends among them, keep what is between them from the seas.
    return len(opened) >= len(coast.row)


def cycle(coast, order):
    """The volumes that a round of an order lets be, and how much water it then brings in from the left."""
    if not is_washed(coast, order):
        raise NoOrder("each basin has to be joined to a sea")
    seas = {}
    if coast.left is not None:
        seas[0] = coast.left
    if coast.right is not None:
        seas[len(coast.row)] = coast.right
    heights = kept_heights(coast.row.areas, seas, order)
    volumes = tuple([times(height, (area, 1)) for height, area in zip(heights, coast.row.areas)])
    return Cycle(volumes, inflow(Coast(with_volumes(coast.row, volumes), coast.left, coast.right), order))


def far_bounds(coast, place):
    """The bounds, over all orders, of the water behind the first basins, for a sea on the left alone."""
    check_coast(coast)
    if coast.left is None or coast.right is not None:
        raise NoOrder("there has to be a sea on the left alone")
    row = coast.row
    check_place(row, place)
    sums, reaches = row.sums(), row.reaches()
    # A line that comes from the left with the rise of the sea may go up to any point, at the place or behind it.
    touching = [minus(sums[at], times(coast.left, (reaches[at] - reaches[place], 1)))
                for at in range(place, len(row) + 1)]
    most = largest([highest(row, place).number, *touching])
    least = smallest([lowest(row, place).number, *touching])
    return minus(sums[-1], most), minus(sums[-1], least)


def smallest(fractions):
    return minus((0, 1), largest([minus((0, 1), number) for number in fractions]))
