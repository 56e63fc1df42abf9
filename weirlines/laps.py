"""Programs that are done lap by lap: what they tend to, and how fast."""

from weirlines.allrows import common_step
from weirlines.amounts import fewest_factors, told_by
from weirlines.exact import common_bottom, exact, is_exact, is_integer, largest, reduced, times, total_of
from weirlines.planerrors import BadStart
from weirlines.programs import check_many, check_program, check_told, evened, halvings, openings

MOST_LAPS = 200


class LapsDone:
    """Laps leave nothing from some number on; `laps` is the least such number."""

    def __init__(self, laps):
        self.laps = laps

    def __eq__(self, other):
        return isinstance(other, LapsDone) and self.laps == other.laps

    def __bool__(self):
        return True

    def shows(self, program, many):
        return judge_laps(program, many) == self


class LapsLeft:
    """Laps always leave something: in a place, with 1 in one basin at first, behind as many as there are basins."""

    def __init__(self, basin, place):
        self.basin = basin
        self.place = place

    def __eq__(self, other):
        return isinstance(other, LapsLeft) and self.basin == other.basin and self.place == other.place

    def __bool__(self):
        return False

    def shows(self, program, many):
        check_program(program)
        check_many(many)
        if not 0 <= self.basin < many:
            return False
        return self.place in places_left(program, many, self.basin, many)


class LapRecurrence:
    """The first volumes, as many as there are factors; each later one is the sum of so many ahead, times these."""

    def __init__(self, factors, firsts):
        self.factors = list(factors)
        self.firsts = list(firsts)

    def __eq__(self, other):
        return isinstance(other, LapRecurrence) and self.factors == other.factors and self.firsts == other.firsts

    def __bool__(self):
        return True

    def __len__(self):
        return len(self.factors)

    def shows(self, program, volumes, basin):
        check_basin_of(program, volumes, basin)
        if len(self.factors) != len(self.firsts):
            return False
        if not all([is_exact(number) for number in self.factors + self.firsts]):
            return False
        # Two recurrences tell the same if they do so for as many numbers as they have factors together.
        many = len(self.factors) + len(volumes)
        return told_by(self.factors, self.firsts, many) == volumes_by_laps(program, volumes, basin, many)


class EvenAlways:
    """Laps always tend to even heights: for each rest, `rounds` has a round that opens the weirs with this rest."""

    def __init__(self, rounds):
        self.rounds = list(rounds)

    def __eq__(self, other):
        return isinstance(other, EvenAlways) and self.rounds == other.rounds

    def __bool__(self):
        return True

    def shows(self, program):
        check_program(program)
        if len(self.rounds) != common_step(program, program):
            return False
        return all([place in rounds_for(program, rest) for rest, place in enumerate(self.rounds)])


class Parted:
    """Laps do not tend to even heights for all numbers of basins: `weir` is the least one that is never opened."""

    def __init__(self, weir):
        self.weir = weir

    def __eq__(self, other):
        return isinstance(other, Parted) and self.weir == other.weir

    def __bool__(self):
        return False

    def shows(self, program):
        return judge_even(program) == self


def check_laps(laps):
    if not is_integer(laps) or not 0 <= laps <= MOST_LAPS:
        raise BadStart("a number of laps is an integer from 0 to 200")


def check_volumes_for(program, volumes):
    check_program(program)
    check_told(volumes)


def check_basin_of(program, volumes, basin):
    check_volumes_for(program, volumes)
    if not is_integer(basin) or not 0 <= basin < len(volumes):
        raise BadStart("a basin is an integer from 0 to less than their number")


def prepared(program, volumes, laps):
    """Volumes as integers that can be halved as often as so many laps take, and the bottom they are to be put over."""
    told = [exact(volume) for volume in volumes]
    bottom = common_bottom(told) << (halvings(program.rounds, len(told)) * laps)
    return [top * (bottom // under) for top, under in told], bottom


def behind_laps(program, tops, laps):
    """The lists of integers behind 0, 1, .. laps."""
    found = [tops]
    for _ in range(laps):
        found.append(evened(program.rounds, found[-1]))
    return found


def lapped(program, volumes, laps):
    """The volumes behind so many laps."""
    check_volumes_for(program, volumes)
    check_laps(laps)
    tops, bottom = prepared(program, volumes, laps)
    return tuple([reduced(top, bottom) for top in evened(program.rounds * laps, tops)])


def stretches(program, many):
    """The stretches between weirs that are never opened, as pairs of the first basin and the one behind the last."""
    check_program(program)
    check_many(many)
    opened = openings(program.rounds, many)
    ends = [weir for weir in range(1, many) if weir not in opened]
    return list(zip([0, *ends], [*ends, many]))


def lap_limit(program, volumes):
    """The volumes to which laps tend: even ones in each stretch."""
    check_volumes_for(program, volumes)
    told = [exact(volume) for volume in volumes]
    found = []
    for first, end in stretches(program, len(told)):
        even = times(total_of(told[first:end]), (1, end - first))
        found.extend([even for _ in range(first, end)])
    return tuple(found)


def stretch_of(program, many, basin):
    """The stretch that a basin belongs to."""
    return [(first, end) for first, end in stretches(program, many) if first <= basin < end][0]


def lone_volumes(many, basin):
    return [int(at == basin) for at in range(many)]


def left_behind(program, many, laps):
    """The greatest difference from the limit that laps leave in any place, with 1 in any one basin at first."""
    check_program(program)
    check_many(many)
    check_laps(laps)
    found = []
    for basin in range(many):
        first, end = stretch_of(program, many, basin)
        tops, bottom = prepared(program, lone_volumes(many, basin), laps)
        late = evened(program.rounds * laps, tops)
        off = max([abs(top * (end - first) - bottom) for top in late[first:end]])
        found.append(reduced(off, bottom * (end - first)))
    return largest(found)


def moved(program, volumes, laps):
    """The sums of what each lap changes the volumes by, without signs."""
    check_volumes_for(program, volumes)
    check_laps(laps)
    tops, bottom = prepared(program, volumes, laps)
    found = behind_laps(program, tops, laps)
    changes_by_lap = [[abs(own - other) for own, other in zip(early, late)] for early, late in zip(found, found[1:])]
    return [reduced(sum(changed), bottom) for changed in changes_by_lap]


def laps_left(program, many, basin, laps):
    """The lists of places where 0, 1, .. laps leave something, with 1 in one basin at first."""
    first, end = stretch_of(program, many, basin)
    tops, bottom = prepared(program, lone_volumes(many, basin), laps)
    return [[place for place in range(first, end) if late[place] * (end - first) != bottom]
            for late in behind_laps(program, tops, laps)]


def places_left(program, many, basin, laps):
    """The places where so many laps leave something, with 1 in one basin at first."""
    return laps_left(program, many, basin, laps)[-1]


def judge_laps(program, many):
    """Whether some number of laps leaves nothing for so many basins, and the least one, or where something is left."""
    check_program(program)
    check_many(many)
    most = 0
    for basin in range(many):
        # Differences have one dimension less than there are basins, so what is left by now never goes.
        found = laps_left(program, many, basin, many)
        if found[-1]:
            return LapsLeft(basin, found[-1][0])
        most = max(most, len([places for places in found if places]))
    return LapsDone(most)


def volumes_by_laps(program, volumes, basin, many):
    """The volumes of a basin behind 0, 1, .. laps, so many of them."""
    tops, bottom = prepared(program, volumes, many - 1)
    return [reduced(late[basin], bottom) for late in behind_laps(program, tops, many - 1)]


def lap_recurrence(program, volumes, basin):
    """The recurrence of the volumes of a basin behind 0, 1, .. laps, with as few factors as can be."""
    check_basin_of(program, volumes, basin)
    # Laps have a recurrence with as many factors as there are basins: twice as many numbers leave no other so short.
    numbers = volumes_by_laps(program, volumes, basin, 2 * len(volumes))
    factors = fewest_factors(numbers)
    return LapRecurrence(factors, numbers[:len(factors)])


def rounds_for(program, rest):
    """The places of the rounds that open the weirs with a rest by the common step."""
    return [place for place, told in enumerate(program.rounds) if told[0] != "every" or rest % told[1] == told[2]]


def judge_even(program):
    """Whether laps tend to even heights for all numbers of basins and all volumes."""
    check_program(program)
    step = common_step(program, program)
    # The weirs with the rest 0 begin with the step itself.
    for weir in range(1, step + 1):
        if not rounds_for(program, weir % step):
            return Parted(weir)
    return EvenAlways([rounds_for(program, rest)[0] for rest in range(step)])
