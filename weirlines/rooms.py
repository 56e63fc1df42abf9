"""Room for water: how much can be added to a basin, or must be taken out, so that no order passes a number."""

from weirlines.bounds import Profile, highest
from weirlines.errors import BadNumber, NoOrder
from weirlines.exact import exact, is_integer, is_less, largest, minus, reduced
from weirlines.rows import check_number, check_place, check_row


class Room:
    """The greatest volume that can be added to a basin, and two points whose straight line gives the number then."""

    def __init__(self, volume, one, other):
        self.volume = volume
        self.one = one
        self.other = other

    def __eq__(self, other):
        return (isinstance(other, Room) and self.volume == other.volume and self.one == other.one
                and self.other == other.other)

    def __bool__(self):
        return True

    def shows(self, row, basin, place, number):
        check_asked(row, basin, place, number)
        chords = Chords(row, place, number)
        if chords.are_above():
            return False
        found = chords.tightest(basin)
        if found is None or found.volume != self.volume:
            return False
        return chords.room_by(basin, self.one, self.other) == self.volume


class Chords:
    """The straight lines through two points each around a place, held against a number there.

    `lacks` tells how far each is below the number, times its length and `unit`. If it is as much over the length,
    or over the part of it ahead of the place, that is how much can be added to a basin ahead of it, or below it.
    """

    def __init__(self, row, place, number):
        profile = Profile(row, 1)
        top, under = exact(number)
        self.place = place
        self.distances = profile.distances
        self.unit = profile.bottom * under
        self.lacks = {}
        for one in range(min(place, len(row) - 1) + 1):
            last = profile.stretch(one, one + 1)[1]
            for other in range(max(place, one + 1), last + 1):
                length = self.distances[other] - self.distances[one]
                level = profile.levels[place] * length + profile.gap(one, other, place)
                self.lacks[one, other] = top * profile.bottom * length - level * under

    def are_above(self):
        """Whether one of them is above the number already."""
        return min(list(self.lacks.values())) < 0

    def share_below(self, basin, one, other):
        """What the lack is to be put over for a basin, besides the unit; 0 if the basin does not count."""
        if basin >= other:
            return 0
        return self.distances[other if basin < one else self.place] - self.distances[one]

    def room_by(self, basin, one, other):
        """How much can be added to a basin by one of them, None if there is no such one, or no end by it."""
        if (one, other) not in self.lacks:
            return None
        below = self.share_below(basin, one, other)
        return reduced(self.lacks[one, other], self.unit * below) if below > 0 else None

    def tightest(self, basin):
        """The Room of a basin, None if there is no end."""
        best = None
        for (one, other), lack in self.lacks.items():
            below = self.share_below(basin, one, other)
            if below > 0 and (best is None or lack * best[1] < best[0] * below):
                best = (lack, below, one, other)
        if best is None:
            return None
        return Room(reduced(best[0], self.unit * best[1]), best[2], best[3])


def check_basin(row, basin):
    if not is_integer(basin) or not 0 <= basin < len(row):
        raise BadNumber("a basin is an integer from 0 to less than their number")


def check_asked(row, basin, place, number):
    check_row(row)
    check_basin(row, basin)
    check_place(row, place)
    check_number(number)


def counted(row, place):
    """The fractions by which the water of the basins counts for the least upper bound of the first basins."""
    found = highest(row, place)
    reaches = row.reaches()
    between = reduced(reaches[place] - reaches[found.one], reaches[found.other] - reaches[found.one])
    ahead = [(1, 1) for _ in range(found.one)]
    beyond = [(0, 1) for _ in range(found.other, len(row))]
    return [*ahead, *[between for _ in range(found.one, found.other)], *beyond]


def room(row, basin, place, number):
    """The Room of a basin, None if any volume can be added to it."""
    check_asked(row, basin, place, number)
    return chords_below(row, place, number).tightest(basin)


def chords_below(row, place, number):
    """The straight lines around a place, none of which is above the number."""
    chords = Chords(row, place, number)
    if chords.are_above():
        raise NoOrder("the first basins can have more already")
    return chords


def drain(row, basin, place, number):
    """The least volume to take out of a basin so that the first basins never have more, None if all is not enough."""
    check_asked(row, basin, place, number)
    chords = Chords(row, place, number)
    taken = (0, 1)
    for (one, other), lack in chords.lacks.items():
        if lack < 0:
            missing = chords.room_by(basin, one, other)
            if missing is None:
                return None
            taken = largest([taken, minus((0, 1), missing)])
    return None if is_less(row[basin], taken) else taken


def share_out(row, caps):
    """For each basin, the greatest volume that can be added to it alone so that no cap is passed."""
    check_row(row)
    if not isinstance(caps, dict):
        raise BadNumber("caps are a dict")
    for place in caps:
        check_place(row, place)
    found = [None for _ in row.areas]
    for place in sorted(list(caps)):
        check_number(caps[place])
        chords = chords_below(row, place, caps[place])
        found = [lesser(volume, chords.tightest(basin)) for basin, volume in enumerate(found)]
    return found


def lesser(volume, told):
    """The lesser one of a volume, None for no end, and that of a Room, None likewise."""
    if told is None or volume is not None and is_less(volume, told.volume):
        return volume
    return told.volume
