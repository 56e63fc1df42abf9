"""Locks that keep the water in the first basins down, and locks that are not needed for it."""

from weirlines.bounds import highest
from weirlines.errors import BadWeir
from weirlines.exact import exact, is_integer, is_less
from weirlines.rows import Row, check_number, check_place, check_row

# More locks than one on either side of a place never matter to it.
MOST_NEEDED = 2


class Guard:
    """As few further locks as can be that keep the first basins down, and the bounds with fewer ones."""

    def __init__(self, locks, against):
        self.locks = list(locks)
        self.against = {chosen: against[chosen] for chosen in against}

    def __eq__(self, other):
        return isinstance(other, Guard) and self.locks == other.locks and self.against == other.against

    def __bool__(self):
        return True

    def shows(self, row, choices, place, number):
        found = guards(row, choices, place, number)
        if found is None or len(self.locks) != len(found.locks) or self.against != found.against:
            return False
        if tuple(self.locks) not in chosen_from(choices, MOST_NEEDED):
            return False
        return not is_less(exact(number), bound_with(row, self.locks, place))


def check_choices(row, choices):
    if not isinstance(choices, (list, tuple)):
        raise BadWeir(None)
    before = 0
    for weir in choices:
        if not is_integer(weir):
            raise BadWeir(None)
        if weir not in row or weir <= before:
            raise BadWeir(weir)
        before = weir


def check_bound(row, place, number):
    check_place(row, place)
    check_number(number)


def bound_with(row, more, place):
    """The least upper bound of the first basins, if some more weirs are locked."""
    return highest(Row(row.areas, row.volumes, [*row.locks, *more]), place).number


def chosen_from(choices, most):
    """All tuples of at most so many of the choices, ascending, those of fewer ones first."""
    found = [()]
    latest = [()]
    for _ in range(most):
        latest = [(*chosen, weir) for chosen in latest for weir in choices if not chosen or weir > chosen[-1]]
        found.extend(latest)
    return found


def guards(row, choices, place, number):
    """As few of the choices as can be that, locked, keep the first basins from ever having more than a number."""
    check_row(row)
    check_choices(row, choices)
    check_bound(row, place, number)
    above = {}
    for chosen in chosen_from(choices, MOST_NEEDED):
        bound = bound_with(row, chosen, place)
        if not is_less(exact(number), bound):
            return Guard(chosen, {fewer: above[fewer] for fewer in above if len(fewer) < len(chosen)})
        above[chosen] = bound
    return None


def loosened(row, place, number):
    """The locks that are taken away, one after the other, without which the first basins still have no more."""
    check_row(row)
    check_bound(row, place, number)
    kept, taken = list(row.locks), []
    for lock in row.locks:
        fewer = [other for other in kept if other != lock]
        if not is_less(exact(number), highest(Row(row.areas, row.volumes, fewer), place).number):
            kept = fewer
            taken.append(lock)
    return taken
