"""The bounds of the water in the first basins over all orders, however long."""

from weirlines.exact import exact, reduced
from weirlines.rows import check_place, check_row, check_width, line_of

# Gaps are reckoned in so small parts of the width that rounding them up cannot keep an order from its end.
FINENESS = 2 ** 64


class High:
    """The least upper bound, and two points of the row's line whose straight line tells it."""

    def __init__(self, number, one, other):
        self.number = number
        self.one = one
        self.other = other

    def __eq__(self, other):
        return (isinstance(other, High) and self.number == other.number and self.one == other.one
                and self.other == other.other)

    def __bool__(self):
        return True

    def shows(self, row, place):
        check_row(row)
        check_place(row, place)
        return is_told(row, place, self.one, self.other, 1, self.number)


class Low:
    """The greatest lower bound, and two points of the row's line whose straight line tells it."""

    def __init__(self, number, one, other):
        self.number = number
        self.one = one
        self.other = other

    def __eq__(self, other):
        return (isinstance(other, Low) and self.number == other.number and self.one == other.one
                and self.other == other.other)

    def __bool__(self):
        return True

    def shows(self, row, place):
        check_row(row)
        check_place(row, place)
        return is_told(row, place, self.one, self.other, -1, self.number)


class Profile:
    """The points of a row's line as integers over one bottom; with side -1 upside down, so that Low is High there."""

    def __init__(self, row, side):
        line = line_of(row)
        self.row = row
        self.side = side
        self.bottom = line.bottom
        self.levels = [side * top for top in line.tops]
        self.distances = row.reaches()

    def gap(self, one, other, at):
        """How far a point is below the straight line through two others, times the length between these."""
        far = self.distances[at] - self.distances[one]
        length = self.distances[other] - self.distances[one]
        rise = self.levels[other] - self.levels[one]
        return rise * far - (self.levels[at] - self.levels[one]) * length

    def stretch(self, one, other):
        """The last point from one back that stays, and the first from the other on: locks, or ends."""
        stays = [0, *self.row.locks, len(self.row)]
        return max([stay for stay in stays if stay <= one]), min([stay for stay in stays if stay >= other])

    def edge(self, place):
        """The two points beside one another, around a place, that lie on the least concave line over the points."""
        before = max(place - 1, 0)
        first, last = self.stretch(before, before + 1)
        touching = []
        for at in range(first, last + 1):
            while len(touching) > 1 and self.gap(touching[-2], at, touching[-1]) > 0:
                touching.pop()
            touching.append(at)
        other = min([corner for corner in touching if corner > before])
        return touching[touching.index(other) - 1], other

    def value(self, one, other, place):
        """The water at a place of the straight line through two points, as it is told of the row itself."""
        length = self.distances[other] - self.distances[one]
        top = self.levels[place] * length + self.gap(one, other, place)
        return reduced(self.side * top, self.bottom * length)


def is_told(row, place, one, other, side, number):
    """Whether two points tell the number as the bound at a place."""
    if not 0 <= one <= place <= other <= len(row) or one == other:
        return False
    profile = Profile(row, side)
    first, last = profile.stretch(one, one + 1)
    if other > last:
        return False
    if min([profile.gap(one, other, at) for at in range(first, last + 1)]) < 0:
        return False
    return number == profile.value(one, other, place)


def highest(row, place):
    """The least upper bound of the water in the first basins."""
    check_row(row)
    check_place(row, place)
    profile = Profile(row, 1)
    one, other = profile.edge(place)
    return High(profile.value(one, other, place), one, other)


def lowest(row, place):
    """The greatest lower bound of the water in the first basins."""
    check_row(row)
    check_place(row, place)
    profile = Profile(row, -1)
    one, other = profile.edge(place)
    return Low(profile.value(one, other, place), one, other)


def reaching(row, place, *, low=False):
    """A shortest order behind which the first basins have just the bound, None if there is none."""
    bound = lowest(row, place) if low else highest(row, place)
    if row.sums()[place] == bound.number:
        return []
    # A place that stays has its bound already, so this one can be opened.
    if row.opened(place).sums()[place] == bound.number:
        return [place]
    return None


def nearing(row, place, width, *, low=False):
    """An order behind which the first basins have the bound but for a width at most."""
    check_row(row)
    check_place(row, place)
    check_width(width)
    profile = Profile(row, -1 if low else 1)
    one, other = profile.edge(place)
    gaps = fine_gaps(profile, one, other, exact(width))
    order = []
    while gaps[place] > FINENESS:
        weir = steepest(row.areas, gaps, one, other)
        gaps[weir] = gap_behind(row.areas, gaps, weir)
        order.append(weir)
    return order


def fine_gaps(profile, one, other, width):
    """How far the points are below an edge, in small parts of the width, rounded up; 0 where this does not matter.

    An opening takes averages, so gaps that are rounded up stay above the true ones.
    """
    gaps = [0 for _ in profile.levels]
    unit = profile.bottom * (profile.distances[other] - profile.distances[one]) * width[0]
    for at in range(one, other + 1):
        gaps[at] = -(-profile.gap(one, other, at) * width[1] * FINENESS // unit)
    return gaps


def gap_behind(areas, gaps, weir):
    """The gap of a point behind the opening of its weir, rounded up."""
    first, second = areas[weir - 1], areas[weir]
    return -(-(second * gaps[weir - 1] + first * gaps[weir + 1]) // (first + second))


def steepest(areas, gaps, one, other):
    """The weir between two points whose opening makes its gap smaller by most."""
    # In trials this made the shortest orders, ahead of sweeps from end to end.
    falls = [gaps[weir] - gap_behind(areas, gaps, weir) for weir in range(one + 1, other)]
    return one + 1 + falls.index(max(falls))
