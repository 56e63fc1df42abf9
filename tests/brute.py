"""Plain reckoning with fractions.Fraction, independent of the package, that tests hold it against."""

from fractions import Fraction
from itertools import product


def fraction(told):
    return Fraction(*told) if isinstance(told, tuple) else Fraction(told)


def pair(number):
    number = Fraction(number)
    return (number.numerator, number.denominator)


def opened(areas, volumes, weir):
    late = list(volumes)
    both = late[weir - 1] + late[weir]
    whole = areas[weir - 1] + areas[weir]
    late[weir - 1] = both * areas[weir - 1] / whole
    late[weir] = both * areas[weir] / whole
    return late


def after(row, order):
    """The volumes behind an order, as fractions."""
    volumes = [fraction(volume) for volume in row.volumes]
    for weir in order:
        volumes = opened(row.areas, volumes, weir)
    return volumes


def heights(row, volumes):
    return [volume / area for volume, area in zip(volumes, row.areas)]


def all_orders(row, many):
    """All orders of just so many openings."""
    return [list(order) for order in product(row.weirs(), repeat=many)]


def chord_bound(row, place, side):
    """The greatest (least, for side -1) value at a place of straight lines between points between the same locks."""
    points = [Fraction(0)]
    for volume in row.volumes:
        points.append(points[-1] + fraction(volume))
    far = [sum(row.areas[:at]) for at in range(len(row) + 1)]
    stays = [0, *row.locks, len(row)]
    first = max(stay for stay in stays if stay <= place)
    last = min(stay for stay in stays if stay >= place)
    found = [points[place]]
    for one in range(first, place):
        for other in range(place + 1, last + 1):
            slope = (points[other] - points[one]) / (far[other] - far[one])
            found.append(points[one] + slope * (far[place] - far[one]))
    return max(found) if side == 1 else min(found)


def turns(row, volumes):
    levels = heights(row, volumes)
    signs = [1 if late > early else -1 for early, late in zip(levels, levels[1:]) if early != late]
    return sum(1 for early, late in zip(signs, signs[1:]) if early != late)


def random_row(rng, many, most_area=4, most_volume=5, locked=0.0):
    from weirlines.rows import Row
    areas = tuple(rng.randint(1, most_area) for _ in range(many))
    volumes = tuple((rng.randint(0, most_volume), rng.randint(1, 3)) for _ in range(many))
    locks = [weir for weir in range(1, many) if rng.random() < locked]
    return Row(areas, volumes, locks)


def random_order(rng, row, many):
    weirs = row.weirs()
    return [rng.choice(weirs) for _ in range(many)] if weirs else []
