"""Rows of basins, openings of their weirs, and orders of openings."""

from weirlines.errors import BadNumber, BadOrder, BadRow, BadWeir
from weirlines.exact import Line, exact, is_amount, is_fraction, is_integer, is_less, minus, plus, times

MOST_BASINS = 24
MOST_AREA = 1000
MOST_OPENINGS = 20000


class Row:
    """A row of basins with areas and volumes, and with locks at some of the weirs between them."""

    def __init__(self, areas, volumes, locks=()):
        check_areas(areas)
        check_volumes(volumes, len(areas))
        check_locks(locks, len(areas))
        self.areas = tuple(areas)
        self.volumes = tuple([exact(volume) for volume in volumes])
        self.locks = tuple(sorted(set(locks)))

    def __len__(self):
        return len(self.areas)

    def __getitem__(self, at):
        return self.volumes[at]

    def __iter__(self):
        return iter(self.volumes)

    def __contains__(self, weir):
        return is_integer(weir) and 0 < weir < len(self.areas) and weir not in self.locks

    def __eq__(self, other):
        return (isinstance(other, Row) and self.areas == other.areas and self.volumes == other.volumes
                and self.locks == other.locks)

    def weirs(self):
        """The weirs that can be opened."""
        return [weir for weir in range(1, len(self.areas)) if weir not in self.locks]

    def heights(self):
        return [times(volume, (1, area)) for volume, area in zip(self.volumes, self.areas)]

    def sums(self):
        """The water in the first 0, 1, .. basins."""
        found = [(0, 1)]
        for volume in self.volumes:
            found.append(plus(found[-1], volume))
        return found

    def reaches(self):
        """The areas of the first 0, 1, .. basins together."""
        found = [0]
        for area in self.areas:
            found.append(found[-1] + area)
        return found

    def opened(self, weir, share=(1, 1)):
        """The row behind an opening, or, with a share below 1, behind an opening in part."""
        if weir not in self:
            raise BadWeir(weir if is_integer(weir) else None)
        first, second = self.areas[weir - 1], self.areas[weir]
        ahead, beyond = self.volumes[weir - 1], self.volumes[weir]
        even = times(plus(ahead, beyond), (1, first + second))
        late = (times(even, (first, 1)), times(even, (second, 1)))
        part = exact(share)
        if part != (1, 1):
            moved = times(minus(late[0], ahead), part)
            late = (plus(ahead, moved), minus(beyond, moved))
        return with_volumes(self, self.volumes[:weir - 1] + late + self.volumes[weir + 1:])


def with_volumes(row, volumes):
    """A row with other volumes, which are told as fractions without a common divisor."""
    # What is known to be right is not looked through again, for volumes may be long numbers.
    late = Row((1,), (0,))
    late.areas = row.areas
    late.volumes = tuple(volumes)
    late.locks = row.locks
    return late


def check_areas(areas):
    if not isinstance(areas, tuple) or not 1 <= len(areas) <= MOST_BASINS:
        raise BadRow("areas are a tuple of 1 to 24")
    for area in areas:
        if not is_integer(area) or not 1 <= area <= MOST_AREA:
            raise BadRow("an area is an integer from 1 to 1000")


def check_volumes(volumes, many):
    if not isinstance(volumes, tuple) or len(volumes) != many:
        raise BadRow("volumes are a tuple of as many as there are areas")
    for volume in volumes:
        if not is_amount(volume):
            raise BadRow("a volume is a fraction from 0 on")


def check_locks(locks, many):
    if not isinstance(locks, (list, tuple)):
        raise BadRow("locks are a list or a tuple")
    for lock in locks:
        if not is_integer(lock):
            raise BadWeir(None)
        if not 0 < lock < many:
            raise BadWeir(lock)


def check_row(row):
    if not isinstance(row, Row):
        raise BadRow("a row is asked for")


def check_order(row, order):
    """The list of the openings of an order, which is refused if it is none for the row."""
    if not isinstance(order, (list, tuple)) or len(order) > MOST_OPENINGS:
        raise BadOrder(None)
    for place, weir in enumerate(order):
        if weir not in row:
            raise BadOrder(place)
    return list(order)


def check_place(row, place):
    if not is_integer(place) or not 0 <= place <= len(row):
        raise BadNumber("a place is an integer from 0 to the number of basins")


def check_number(number):
    if not is_fraction(number):
        raise BadNumber("a number is a fraction")


def check_width(width):
    if not is_fraction(width) or not is_less((0, 1), exact(width)):
        raise BadNumber("a width is a fraction above 0")


def line_of(row):
    return Line(row.areas, row.sums())


def behind(row, order):
    """The row behind an order."""
    check_row(row)
    openings = check_order(row, order)
    line = line_of(row)
    for weir in openings:
        line.even(weir)
    return with_volumes(row, line.water())


def steps(row, order):
    """The rows behind each opening of an order."""
    check_row(row)
    late = row
    for weir in check_order(row, order):
        late = late.opened(weir)
        yield late
