"""Which orders do the same to all volumes, and the first of the shortest orders that come of one by exchanges."""

from weirlines.rows import Row, behind, check_areas, check_order, check_row


class Same:
    """Two orders are the same; `columns` are the volumes behind either one of 1 in each basin alone."""

    def __init__(self, columns):
        self.columns = list(columns)

    def __eq__(self, other):
        return isinstance(other, Same) and self.columns == other.columns

    def __bool__(self):
        return True

    def shows(self, areas, one, other, *, locks=()):
        return judge_orders(areas, one, other, locks=locks) == self


class Differ:
    """Two orders are not the same; `basin` is the first one that tells, with 1 in it alone."""

    def __init__(self, basin):
        self.basin = basin

    def __eq__(self, other):
        return isinstance(other, Differ) and self.basin == other.basin

    def __bool__(self):
        return False

    def shows(self, areas, one, other, *, locks=()):
        return judge_orders(areas, one, other, locks=locks) == self


def judge_orders(areas, one, other, *, locks=()):
    """Whether two orders do the same to all volumes: they do if they do to each basin's water alone."""
    check_areas(areas)
    rows = [lone_row(areas, basin, locks) for basin in range(len(areas))]
    columns = []
    for basin, row in enumerate(rows):
        column = behind(row, one).volumes
        if behind(row, other).volumes != column:
            return Differ(basin)
        columns.append(column)
    return Same(columns)


def lone_row(areas, basin, locks):
    """The row with a volume of 1 in one basin, and none elsewhere."""
    return Row(areas, tuple([int(at == basin) for at in range(len(areas))]), locks)


def tidy(row, order):
    """The first one, ascending, of the shortest lists that come of an order by exchanges and leaving out."""
    check_row(row)
    return first_exchanged(without_repeats(check_order(row, order)))


def without_repeats(openings):
    """What is left without openings that can be brought beside an earlier one of the same weir."""
    kept = []
    fresh = {}
    for weir in openings:
        if fresh.get(weir, False):
            continue
        kept.append(weir)
        fresh[weir] = True
        # A neighbour's opening cannot be exchanged with those of this weir.
        fresh[weir - 1] = False
        fresh[weir + 1] = False
    return kept


def first_exchanged(openings):
    """The first list, ascending, of those that come of openings by exchanges."""
    places = {weir: [] for weir in sorted(set(openings))}
    for place in reversed(range(len(openings))):
        places[openings[place]].append(place)
    ordered = []
    for _ in openings:
        weir = first_free(places)
        places[weir].pop()
        ordered.append(weir)
    return ordered


def first_free(places):
    """The first weir whose next opening can be brought ahead of all others that are left, told their places."""
    for weir, own in places.items():
        # If one of the weir below stood ahead of it, that one, or one further below, would have been found.
        above = places.get(weir + 1, [])
        if own and (not above or own[-1] < above[-1]):
            return weir
    return None
