"""Which orders bring more water into the first basins, for all rows of a shape."""

from weirlines.errors import BadNumber
from weirlines.exact import is_less, largest, minus, plus, times
from weirlines.making import check_many_openings
from weirlines.rows import Row, behind, check_areas, check_order, check_place

SHAPES = ("any", "rising", "falling")


class More:
    """The first order brings at least as much as the second one; `gains` are how much more, for each corner."""

    def __init__(self, gains):
        self.gains = list(gains)

    def __eq__(self, other):
        return isinstance(other, More) and self.gains == other.gains

    def __bool__(self):
        return True

    def shows(self, areas, one, other, place, shape="any", *, locks=()):
        return judge_more(areas, one, other, place, shape, locks=locks) == self


class Less:
    """The first order brings less than the second one for a row of the shape; `corner` is the first such one."""

    def __init__(self, corner):
        self.corner = corner

    def __eq__(self, other):
        return isinstance(other, Less) and self.corner == other.corner

    def __bool__(self):
        return False

    def shows(self, areas, one, other, place, shape="any", *, locks=()):
        return judge_more(areas, one, other, place, shape, locks=locks) == self


class Dominant:
    """Among all orders of few openings, `order` brings as much as any other one, for all rows of the shape."""

    def __init__(self, order):
        self.order = list(order)

    def __eq__(self, other):
        return isinstance(other, Dominant) and self.order == other.order

    def __bool__(self):
        return True

    def shows(self, areas, place, many, shape="any", *, locks=()):
        row = check_asked(areas, place, many, shape, locks)
        openings = check_order(row, self.order)
        if len(openings) > many:
            return False
        return brought(row, openings, shape) == greatest_amounts(amounts_by_orders(row, many, shape))


class Rivals:
    """No one order of few openings brings for all rows what others do; `numbers` are the most, for each corner."""

    def __init__(self, numbers):
        self.numbers = list(numbers)

    def __eq__(self, other):
        return isinstance(other, Rivals) and self.numbers == other.numbers

    def __bool__(self):
        return False

    def shows(self, areas, place, many, shape="any", *, locks=()):
        return judge_dominant(areas, place, many, shape, locks=locks) == self


def check_shape(shape):
    if shape not in SHAPES:
        raise BadNumber("a shape is one of three words")


def full_first(areas, place, locks):
    """The row with the height 1 in the first basins, and 0 behind them."""
    return Row(areas, tuple([area if basin < place else 0 for basin, area in enumerate(areas)]), locks)


def parts_ahead(row, openings):
    """The parts of each basin's water that an order brings into the first basins, told the row that is full there.

    What one basin has of another one's water, over its area, that other one has of its water in the order turned
    back: so these parts are the heights to which the first basins, full at first, bring all others then.
    """
    return behind(row, openings[::-1]).heights()


def corner_amounts(areas, parts, shape):
    """The water in the first basins for each corner of a shape, told the parts of each basin's water there."""
    if shape == "any":
        return list(parts)
    water = [times(part, (area, 1)) for part, area in zip(parts, areas)]
    if shape == "falling":
        return running_totals(water)
    return running_totals(water[::-1])[::-1]


def running_totals(numbers):
    found = []
    total = (0, 1)
    for number in numbers:
        total = plus(total, number)
        found.append(total)
    return found


def brought(row, openings, shape):
    """The water in the first basins behind an order, for each corner, told the row that is full there."""
    return corner_amounts(row.areas, parts_ahead(row, openings), shape)


def judge_more(areas, one, other, place, shape="any", *, locks=()):
    """Whether an order brings at least as much into the first basins as another one, for all rows of a shape."""
    check_areas(areas)
    empty = full_first(areas, 0, locks)
    check_shape(shape)
    first, second = check_order(empty, one), check_order(empty, other)
    check_place(empty, place)
    row = full_first(areas, place, locks)
    gains = [minus(have, want) for have, want in zip(brought(row, first, shape), brought(row, second, shape))]
    for corner, gain in enumerate(gains):
        if is_less(gain, (0, 1)):
            return Less(corner)
    return More(gains)


def check_asked(areas, place, many, shape, locks):
    """The row that is full in the first basins, if what is asked about it can be."""
    check_areas(areas)
    empty = full_first(areas, 0, locks)
    check_shape(shape)
    check_place(empty, place)
    check_many_openings(many)
    return full_first(areas, place, locks)


def judge_dominant(areas, place, many, shape="any", *, locks=()):
    """Whether one order of at most so many openings brings as much as each other one, for all rows of a shape."""
    row = check_asked(areas, place, many, shape, locks)
    found = amounts_by_orders(row, many, shape)
    most = greatest_amounts(found)
    for amounts, openings in found:
        if amounts == most:
            return Dominant(openings)
    return Rivals(most)


def greatest_amounts(found):
    """The greatest amount for each corner."""
    corners = range(len(found[0][0]))
    return [largest([amounts[corner] for amounts, _ in found]) for corner in corners]


def amounts_by_orders(row, many, shape):
    """The amounts for each corner, with a shortest order, for all unlike things that few openings can do."""
    orders = {row.volumes: []}
    found = [row]
    latest = [row]
    for _ in range(many):
        # One more opening ahead of an order is one more behind the order turned back.
        longer = [(early, weir, early.opened(weir)) for early in latest for weir in row.weirs()]
        latest = []
        for early, weir, late in longer:
            if late.volumes not in orders:
                orders[late.volumes] = [weir, *orders[early.volumes]]
                latest.append(late)
        found.extend(latest)
    return [(corner_amounts(row.areas, late.heights(), shape), orders[late.volumes]) for late in found]
