"""The most water that few openings can bring into the first basins."""

from weirlines.errors import BadNumber
from weirlines.exact import exact, is_integer, is_less, minus, plus, reduced, times
from weirlines.rows import behind, check_number, check_order, check_place, check_row

MOST_FEW = 8


class Best:
    """The greatest amount of water in the first basins, and a shortest order that brings it."""

    def __init__(self, number, order):
        self.number = number
        self.order = list(order)

    def __eq__(self, other):
        return isinstance(other, Best) and self.number == other.number and self.order == other.order

    def __bool__(self):
        return True

    def shows(self, row, place, many):
        check_asked(row, place, many)
        check_order(row, self.order)
        found = best(row, place, many)
        if self.number != found.number or len(self.order) != len(found.order):
            return False
        return behind(row, self.order).sums()[place] == self.number


def check_asked(row, place, many):
    check_row(row)
    check_place(row, place)
    check_many_openings(many)


def check_many_openings(many):
    if not is_integer(many) or not 0 <= many <= MOST_FEW:
        raise BadNumber("so many openings are an integer from 0 to 8")


def best(row, place, many):
    """The greatest amount of water in the first basins behind any order of at most so many openings."""
    check_asked(row, place, many)
    found = Best(row.sums()[place], [])
    for number, order in greatest(row, place, many):
        if is_less(found.number, number):
            found = Best(number, order)
    return found


def fewest(row, place, number, many):
    """A shortest order of at most so many openings behind which there is a number at least, or None."""
    check_asked(row, place, many)
    check_number(number)
    asked = exact(number)
    for found, order in greatest(row, place, many):
        if not is_less(found, asked):
            return order
    return None


def greatest(row, place, many):
    """The greatest amount behind orders of 0, 1, .. openings, each of which matters, and such an order.

    The water in the first basins behind an order is a sum of that ahead of it, each point of the line times a
    weight. Looking back from the last opening, each opening hands the weight of its point to the points beside it,
    and what has no weight need not be opened: so only few orders, and still fewer weights, come up.
    """
    sums = row.sums()
    gains = {weir: minus(row.opened(weir).sums()[weir], sums[weir]) for weir in row.weirs()}
    weights = tuple([(int(at == place), 1) for at in range(len(sums))])
    states = {weights: (sums[place], [])}
    yield richest(list(states.values()))
    for _ in range(many):
        states = states_ahead(row.areas, gains, states)
        if not states:
            return
        yield richest(list(states.values()))


def richest(found):
    """The first pair with the greatest number."""
    most = found[0]
    for pair in found:
        if is_less(most[0], pair[0]):
            most = pair
    return most


def states_ahead(areas, gains, states):
    """All weights with one more opening ahead, with the amounts and orders that belong to them."""
    found = {}
    for weights, (number, order) in states.items():
        for weir, gain in gains.items():
            if weights[weir] == (0, 1):
                continue
            handed = handed_on(areas, weights, weir)
            if handed not in found:
                found[handed] = (plus(number, times(weights[weir], gain)), [weir, *order])
    return found


def handed_on(areas, weights, weir):
    """The weights ahead of an opening, told those behind it."""
    first, second = areas[weir - 1], areas[weir]
    weight = weights[weir]
    before = plus(weights[weir - 1], times(weight, reduced(second, first + second)))
    after = plus(weights[weir + 1], times(weight, reduced(first, first + second)))
    return weights[:weir - 1] + (before, (0, 1), after) + weights[weir + 2:]
