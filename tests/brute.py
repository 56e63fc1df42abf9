"""Plain reckoning with fractions.Fraction, independent of the package, that tests hold it against."""

from fractions import Fraction
from itertools import product


def fraction(told):
    return Fraction(*told) if isinstance(told, tuple) else Fraction(told)


def pair(number):
    number = Fraction(number)
    return (number.numerator, number.denominator)


def opened(areas, volumes, weir):
    late = list(volumes)
    both = late[weir - 1] + late[weir]
    whole = areas[weir - 1] + areas[weir]
    late[weir - 1] = both * areas[weir - 1] / whole
    late[weir] = both * areas[weir] / whole
    return late


def after(row, order):
    """The volumes behind an order, as fractions."""
    volumes = [fraction(volume) for volume in row.volumes]
    for weir in order:
        volumes = opened(row.areas, volumes, weir)
    return volumes


def heights(row, volumes):
    return [volume / area for volume, area in zip(volumes, row.areas)]


def all_orders(row, many):
    """All orders of just so many openings."""
    return [list(order) for order in product(row.weirs(), repeat=many)]


def chord_bound(row, place, side):
    """The greatest (least, for side -1) value at a place of straight lines between points between the same locks."""
    points = [Fraction(0)]
    for volume in row.volumes:
        points.append(points[-1] + fraction(volume))
    far = [sum(row.areas[:at]) for at in range(len(row) + 1)]
    stays = [0, *row.locks, len(row)]
    first = max(stay for stay in stays if stay <= place)
    last = min(stay for stay in stays if stay >= place)
    found = [points[place]]
    for one in range(first, place):
        for other in range(place + 1, last + 1):
            slope = (points[other] - points[one]) / (far[other] - far[one])
            found.append(points[one] + slope * (far[place] - far[one]))
    return max(found) if side == 1 else min(found)


def turns(row, volumes):
    levels = heights(row, volumes)
    signs = [1 if late > early else -1 for early, late in zip(levels, levels[1:]) if early != late]
    return sum(1 for early, late in zip(signs, signs[1:]) if early != late)


def random_row(rng, many, most_area=4, most_volume=5, locked=0.0):
    from weirlines.rows import Row
    areas = tuple(rng.randint(1, most_area) for _ in range(many))
    volumes = tuple((rng.randint(0, most_volume), rng.randint(1, 3)) for _ in range(many))
    locks = [weir for weir in range(1, many) if rng.random() < locked]
    return Row(areas, volumes, locks)


def random_order(rng, row, many):
    weirs = row.weirs()
    return [rng.choice(weirs) for _ in range(many)] if weirs else []


def weight(row, volumes):
    return sum(volume * volume / area for volume, area in zip(volumes, row.areas))


def longest_by_trying(row, width):
    """How many openings the longest order has all of whose openings find a difference of the width or more."""
    levels = heights(row, after(row, []))
    found = [0]
    for weir in row.weirs():
        if abs(levels[weir - 1] - levels[weir]) >= width:
            found.append(1 + longest_by_trying(row.opened(weir), width))
    return max(found)


def poured(row, parts):
    """The volumes behind openings in part."""
    volumes = after(row, [])
    for weir, share in parts:
        late = opened(row.areas, volumes, weir)
        volumes = [early + fraction(share) * (end - early) for early, end in zip(volumes, late)]
    return volumes


def falling_row(rng, many, most_area=3, most_height=6, locked=0.0):
    from weirlines.rows import Row
    areas = tuple(rng.randint(1, most_area) for _ in range(many))
    levels = sorted([Fraction(rng.randint(0, most_height), rng.randint(1, 2)) for _ in range(many)], reverse=True)
    locks = [weir for weir in range(1, many) if rng.random() < locked]
    return Row(areas, tuple(pair(level * area) for level, area in zip(levels, areas)), locks)


def round_openings(told, many):
    """The weirs that one round of a program opens."""
    if told == ("right",):
        return list(range(1, many))
    if told == ("left",):
        return list(range(1, many))[::-1]
    return list(range(told[2] or told[1], many, told[1]))


def program_done(rounds, volumes):
    """The volumes behind rounds, as fractions."""
    late = [fraction(volume) for volume in volumes]
    for told in rounds:
        for weir in round_openings(told, len(late)):
            late[weir - 1] = late[weir] = (late[weir - 1] + late[weir]) / 2
    return late


ALL_ROUNDS = [("right",), ("left",)] + [("every", step, rest) for step in (2, 3, 4) for rest in range(step)]


def coast_opened(coast, volumes, weir):
    """The volumes behind an opening of a coast, and what it brings in from the left."""
    late = list(volumes)
    if 0 < weir < len(late):
        return opened(coast.row.areas, late, weir), Fraction(0)
    basin, sea = (0, coast.left) if weir == 0 else (len(late) - 1, coast.right)
    late[basin] = fraction(sea) * coast.row.areas[basin]
    return late, late[0] - volumes[0] if weir == 0 else Fraction(0)


def coast_after(coast, order, volumes=None):
    """The volumes behind an order of a coast, and what it brings in from the left, less what goes out there."""
    late = [fraction(volume) for volume in (coast.row.volumes if volumes is None else volumes)]
    flow = Fraction(0)
    for weir in order:
        late, more = coast_opened(coast, late, weir)
        flow += more
    return late, flow


def parts(areas, order):
    """What becomes of a volume of 1 in each basin alone."""
    found = []
    for basin in range(len(areas)):
        volumes = [Fraction(int(at == basin)) for at in range(len(areas))]
        for weir in order:
            volumes = opened(areas, volumes, weir)
        found.append(volumes)
    return found


def turned_about(row):
    """The row with its last basin first."""
    from weirlines.rows import Row
    return Row(row.areas[::-1], row.volumes[::-1], [len(row) - lock for lock in row.locks])
