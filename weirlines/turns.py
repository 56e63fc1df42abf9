"""How often a row turns between rising and falling, which no opening makes more."""

from weirlines.rows import check_order, check_row, line_of


class Sinking:
    """How often a row turns ahead of an order and behind each opening: `numbers`, which never rise."""

    def __init__(self, numbers):
        self.numbers = list(numbers)

    def __eq__(self, other):
        return isinstance(other, Sinking) and self.numbers == other.numbers

    def __bool__(self):
        return True

    def shows(self, row, order):
        return sinking(row, order) == self


def sign_at(line, weir):
    """1 if the height rises at a weir, -1 if it falls, 0 if it is even."""
    rise = line.inside(weir) * line.areas[weir - 1] - line.inside(weir - 1) * line.areas[weir]
    return int(rise > 0) - int(rise < 0)


def all_signs(line):
    """The signs of all weirs, from 1 on, with 0 for even ones."""
    return [sign_at(line, weir) for weir in range(1, len(line.areas))]


def changes(told):
    """How often neighbouring signs differ, even ones left out."""
    left = [sign for sign in told if sign != 0]
    return len([at for at in range(1, len(left)) if left[at - 1] != left[at]])


def signs(row):
    """The signs of the weirs that have one."""
    check_row(row)
    return [sign for sign in all_signs(line_of(row)) if sign != 0]


def turns(row):
    """How often a row turns."""
    return changes(signs(row))


def flats(row):
    """The longest stretches of even height, as pairs of the first basin and the one behind the last one."""
    check_row(row)
    told = all_signs(line_of(row))
    ends = [weir for weir in range(1, len(row)) if told[weir - 1] != 0]
    return list(zip([0, *ends], [*ends, len(row)]))


def peaks(row):
    """The stretches of even height that are higher than those beside them."""
    check_row(row)
    told = all_signs(line_of(row))
    return [(first, end) for first, end in flats(row)
            if (first == 0 or told[first - 1] == 1) and (end == len(row) or told[end - 1] == -1)]


def sinking(row, order):
    """How often a row turns ahead of an order and behind each opening."""
    check_row(row)
    openings = check_order(row, order)
    line = line_of(row)
    told = all_signs(line)
    numbers = [changes(told)]
    for weir in openings:
        line.even(weir)
        # Only the two basins beside the weir have changed, so only signs at and beside it can.
        for near in range(max(weir - 1, 1), min(weir + 2, len(row))):
            told[near - 1] = sign_at(line, near)
        numbers.append(changes(told))
    return Sinking(numbers)


def turns_left(row):
    """How often a row turns behind an opening of each weir that can be opened."""
    check_row(row)
    return {weir: turns(row.opened(weir)) for weir in row.weirs()}
