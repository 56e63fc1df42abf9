"""Openings in part, and which rows falling rows can become by them."""

from weirlines.errors import BadOrder, NotFalling, Unlike
from weirlines.exact import common_bottom, exact, is_fraction, minus, reduced
from weirlines.rows import MOST_OPENINGS, check_row, check_width

# Water is rounded up to so small parts that this cannot keep any of it from coming down to a goal.
FINENESS = 2 ** 64


class Poured:
    """The goal is reached; `parts` are openings in part that bring it."""

    def __init__(self, parts):
        self.parts = list(parts)

    def __eq__(self, other):
        return isinstance(other, Poured) and self.parts == other.parts

    def __bool__(self):
        return True

    def shows(self, row, goal):
        check_goal(row, goal)
        return first_no_part(row, self.parts) is None and poured(row, self.parts) == goal


class Rising:
    """The goal cannot be reached, for it rises at a weir that can be opened."""

    def __init__(self, weir):
        self.weir = weir

    def __eq__(self, other):
        return isinstance(other, Rising) and self.weir == other.weir

    def __bool__(self):
        return False

    def shows(self, row, goal):
        check_goal(row, goal)
        return self.weir in row and rise_at(goal, self.weir) > 0


class Over:
    """The goal cannot be reached, for so many first basins, `place`, have more water in it."""

    def __init__(self, place):
        self.place = place

    def __eq__(self, other):
        return isinstance(other, Over) and self.place == other.place

    def __bool__(self):
        return False

    def shows(self, row, goal):
        check_goal(row, goal)
        return 0 <= self.place <= len(row) and lacking(row, goal)[self.place] < 0


class Straight:
    """The goal cannot be reached, for it is even around a weir and the next one, and has less water ahead of each."""

    def __init__(self, weir):
        self.weir = weir

    def __eq__(self, other):
        return isinstance(other, Straight) and self.weir == other.weir

    def __bool__(self):
        return False

    def shows(self, row, goal):
        check_goal(row, goal)
        return self.weir in straight_weirs(row, goal)


def check_goal(row, goal):
    check_row(row)
    check_row(goal)
    for weir in range(1, len(row)):
        if rise_at(row, weir) > 0:
            raise NotFalling(weir)
    if row.areas != goal.areas:
        raise Unlike("areas")
    if row.locks != goal.locks:
        raise Unlike("locks")
    lacks = lacking(row, goal)
    for end in (*row.locks, len(row)):
        if lacks[end] != 0:
            raise Unlike("water")


def rise_at(row, weir):
    """By how much the height rises at a weir, times a number above 0."""
    ahead, beyond = row.volumes[weir - 1], row.volumes[weir]
    return beyond[0] * ahead[1] * row.areas[weir - 1] - ahead[0] * beyond[1] * row.areas[weir]


def lacking(row, goal):
    """How much less water the first 0, 1, .. basins have in the goal, each times a number above 0."""
    return [minus(have, want)[0] for have, want in zip(row.sums(), goal.sums())]


def straight_weirs(row, goal):
    """The weirs that bar the goal together with the next one: one of them would have to be opened last."""
    lacks = lacking(row, goal)
    loose = [weir for weir in row.weirs() if rise_at(goal, weir) == 0 and lacks[weir] > 0]
    return [weir for weir in loose if weir + 1 in loose]


def is_part(row, thing):
    """Whether something is a pair of a weir that can be opened and a share."""
    if not isinstance(thing, tuple) or len(thing) != 2 or thing[0] not in row or not is_fraction(thing[1]):
        return False
    top, bottom = exact(thing[1])
    return 0 <= top <= bottom


def first_no_part(row, parts):
    """The place of the first of these that is no opening in part, None if there is none."""
    for place, thing in enumerate(parts):
        if not is_part(row, thing):
            return place
    return None


def poured(row, parts):
    """The row behind openings in part."""
    check_row(row)
    if not isinstance(parts, (list, tuple)) or len(parts) > MOST_OPENINGS:
        raise BadOrder(None)
    wrong = first_no_part(row, parts)
    if wrong is not None:
        raise BadOrder(wrong)
    late = row
    for weir, share in parts:
        late = late.opened(weir, share)
    return late


def judge_goal(row, goal):
    """Whether a falling row becomes another one by openings in part, or what bars it."""
    check_goal(row, goal)
    for weir in row.weirs():
        if rise_at(goal, weir) > 0:
            return Rising(weir)
    for place, lack in enumerate(lacking(row, goal)):
        if lack < 0:
            return Over(place)
    for weir in straight_weirs(row, goal):
        return Straight(weir)
    return Poured(lowered(row, goal, (0, 1)))


def near_goal(row, goal, width):
    """Openings in part that bring the water of all first basins to that of the goal but for a width at most."""
    check_goal(row, goal)
    check_width(width)
    if max([0, *[rise_at(goal, weir) for weir in row.weirs()]]) > 0 or min(lacking(row, goal)) < 0:
        return None
    return lowered(row, goal, exact(width))


def lowered(row, goal, width):
    """Openings in part that bring the points of a row's line down to those of the goal but for a width at most.

    No point ever rises, and the lower the others are, the further it can come down: so each opening lowers its point
    as far as it can, but not below the goal. The next one is always one that takes much of the weight: in trials this
    made the shortest lists, ahead of lowering by most and of sweeps from end to end.
    """
    unit = common_bottom([*row.sums(), *goal.sums()]) * width[1] * FINENESS
    levels = [top * (unit // bottom) for top, bottom in row.sums()]
    wanted = [top * (unit // bottom) for top, bottom in goal.sums()]
    allowed = width[0] * (unit // width[1])
    heavy = {weir: FINENESS // row.areas[weir - 1] + FINENESS // row.areas[weir] for weir in row.weirs()}
    parts = []
    while max([level - want for level, want in zip(levels, wanted)]) > allowed:
        aims = {weir: aim_at(row.areas, levels, wanted, weir) for weir in row.weirs()}
        weir = max(row.weirs(), key=lambda at: (levels[at] - aims[at]) ** 2 * heavy[at])
        parts.append((weir, share_to(row.areas, levels, weir, aims[weir])))
        levels[weir] = aims[weir]
    return parts


def aim_at(areas, levels, wanted, weir):
    """How far an opening can lower a point, rounded up, but not below the goal."""
    first, second = areas[weir - 1], areas[weir]
    return max(wanted[weir], -(-(second * levels[weir - 1] + first * levels[weir + 1]) // (first + second)))


def share_to(areas, levels, weir, aim):
    """The share of the opening of a weir that brings its point down to an aim."""
    first, second = areas[weir - 1], areas[weir]
    whole = (first + second) * levels[weir] - second * levels[weir - 1] - first * levels[weir + 1]
    return reduced((levels[weir] - aim) * (first + second), whole)
