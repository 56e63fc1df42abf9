"""The weight of a row, which falls with each opening, and how many openings can find a difference."""

from weirlines.errors import BadWeir
from weirlines.exact import exact, is_exact, is_integer, is_less, minus, plus, reduced, times
from weirlines.rows import check_order, check_row, check_width, line_of, with_volumes


class Longest:
    """A longest order whose openings find a difference, and numbers of openings that bar any longer one."""

    def __init__(self, order, table):
        self.order = list(order)
        self.table = {volumes: table[volumes] for volumes in table}

    def __eq__(self, other):
        return isinstance(other, Longest) and self.order == other.order and self.table == other.table

    def __bool__(self):
        return True

    def shows(self, row, width):
        check_row(row)
        openings = check_order(row, self.order)
        check_width(width)
        if self.table.get(row.volumes) != len(openings) or not all_find(row, openings, exact(width)):
            return False
        return all([bars(self.table, row, volumes, exact(width)) for volumes in self.table])


def weight(row):
    """The sum of the squares of the volumes, each over the area."""
    check_row(row)
    total = (0, 1)
    for volume, area in zip(row.volumes, row.areas):
        total = plus(total, times(times(volume, volume), (1, area)))
    return total


def even_weight(row):
    """The least weight that the water of a row can have between the locks."""
    check_row(row)
    sums, reaches = row.sums(), row.reaches()
    ends = [0, *row.locks, len(row)]
    total = (0, 1)
    for first, end in zip(ends, ends[1:]):
        water = minus(sums[end], sums[first])
        total = plus(total, times(times(water, water), (1, reaches[end] - reaches[first])))
    return total


def falls(row, order):
    """How much of the weight each opening takes away."""
    check_row(row)
    openings = check_order(row, order)
    line = line_of(row)
    found = []
    for weir in openings:
        first, second = row.areas[weir - 1], row.areas[weir]
        off = reduced(line.inside(weir) * first - line.inside(weir - 1) * second, line.bottom)
        found.append(times(times(off, off), (1, first * second * (first + second))))
        line.even(weir)
    return found


def difference(row, weir):
    """The difference of the heights at a weir that can be opened, without its sign."""
    check_row(row)
    if weir not in row:
        raise BadWeir(weir if is_integer(weir) else None)
    return off_at(row.areas, row.volumes, weir)


def off_at(areas, volumes, weir):
    """The difference of the heights at a weir, without its sign."""
    ahead = times(volumes[weir - 1], (1, areas[weir - 1]))
    top, bottom = minus(times(volumes[weir], (1, areas[weir])), ahead)
    return (abs(top), bottom)


def bar(row, width):
    """A number of openings that no order passes whose openings all find a difference of the width or more."""
    check_row(row)
    check_width(width)
    least = least_product(row)
    if least is None:
        return 0
    above = minus(weight(row), even_weight(row))
    taken = times(least, times(exact(width), exact(width)))
    return above[0] * taken[1] // (above[1] * taken[0])


def least_product(row):
    """The least product of areas over their sum, at weirs that can be opened; None if there are none."""
    least = None
    for weir in row.weirs():
        first, second = row.areas[weir - 1], row.areas[weir]
        found = reduced(first * second, first + second)
        if least is None or is_less(found, least):
            least = found
    return least


def openings_from(row, volumes, width):
    """The weirs that find a difference of the width or more with these volumes, and the volumes behind each."""
    here = with_volumes(row, volumes)
    finding = [weir for weir in row.weirs() if not is_less(off_at(row.areas, volumes, weir), width)]
    return [(weir, here.opened(weir).volumes) for weir in finding]


def longest(row, width):
    """A longest order all of whose openings find a difference of the width or more."""
    check_row(row)
    check_width(width)
    table, onward = numbers_of_openings(row, exact(width))
    order = []
    volumes = row.volumes
    while table[volumes] > 0:
        weir, volumes = [step for step in onward[volumes] if table[step[1]] == table[volumes] - 1][0]
        order.append(weir)
    return Longest(order, table)


def numbers_of_openings(row, width):
    """For all volumes that come up, the greatest number of openings from there, and the openings there."""
    # Each opening takes weight away, so no volumes come up again behind themselves.
    table = {}
    onward = {row.volumes: openings_from(row, row.volumes, width)}
    left = [row.volumes]
    while left:
        volumes = left[-1]
        waiting = [late for _, late in onward[volumes] if late not in table]
        if waiting:
            left.append(waiting[0])
            onward[waiting[0]] = openings_from(row, waiting[0], width)
        else:
            left.pop()
            table[volumes] = max([0, *[table[late] + 1 for _, late in onward[volumes]]])
    return table, onward


def all_find(row, openings, width):
    """Whether all openings of an order find a difference of the width or more."""
    late = row
    for weir in openings:
        if is_less(off_at(late.areas, late.volumes, weir), width):
            return False
        late = late.opened(weir)
    return True


def bars(table, row, volumes, width):
    """Whether a table's number for some volumes is above those for the volumes behind openings that find the width."""
    if table[volumes] < 0 or not are_volumes(row, volumes):
        return False
    return all([late in table and table[late] < table[volumes] for _, late in openings_from(row, volumes, width)])


def are_volumes(row, told):
    """Whether these are volumes for a row, as fractions without a common divisor."""
    if len(told) != len(row):
        return False
    return all([is_exact(volume) and volume[0] >= 0 for volume in told])
