"""Programs: rounds of openings that are done on rows of any number of basins, all of area 1, without locks."""

from weirlines.exact import common_bottom, exact, is_fraction, is_integer, reduced
from weirlines.planerrors import BadProgram, BadStart

MOST_ROUNDS = 12
MOST_MANY = 400
# So many basins are followed at once, in one number each: with more of them the numbers would be too long.
TOGETHER = 16


class Program:
    """Rounds that are done one behind the other."""

    def __init__(self, rounds):
        check_rounds(rounds)
        self.rounds = tuple(rounds)

    def __len__(self):
        return len(self.rounds)

    def __eq__(self, other):
        return isinstance(other, Program) and self.rounds == other.rounds

    def __add__(self, other):
        if not isinstance(other, Program):
            return NotImplemented
        return Program(self.rounds + other.rounds)

    def order(self, many):
        """The openings for a number of basins."""
        check_many(many)
        return openings(self.rounds, many)

    def done(self, volumes):
        """The volumes behind the program."""
        check_told(volumes)
        told = [exact(volume) for volume in volumes]
        bottom = common_bottom(told)
        often = halvings(self.rounds, len(told))
        tops = [top * (bottom // under) << often for top, under in told]
        return tuple([reduced(top, bottom << often) for top in evened(self.rounds, tops)])


def is_round(thing):
    if thing in (("right",), ("left",)):
        return True
    if not isinstance(thing, tuple) or len(thing) != 3 or thing[0] != "every":
        return False
    step, rest = thing[1:]
    return is_integer(step) and is_integer(rest) and 2 <= step <= 4 and 0 <= rest < step


def check_rounds(rounds):
    if not isinstance(rounds, (list, tuple)) or len(rounds) > MOST_ROUNDS:
        raise BadProgram(None)
    for place, told in enumerate(rounds):
        if not is_round(told):
            raise BadProgram(place)


def check_program(program):
    if not isinstance(program, Program):
        raise BadProgram(None)


def check_many(many):
    if not is_integer(many) or not 1 <= many <= MOST_MANY:
        raise BadStart("a number of basins is an integer from 1 to 400")


def check_told(volumes):
    if not isinstance(volumes, (list, tuple)) or not 1 <= len(volumes) <= MOST_MANY:
        raise BadStart("volumes are a list or a tuple of 1 to 400")
    for volume in volumes:
        if not is_fraction(volume):
            raise BadStart("a volume is a fraction")


def openings(rounds, many):
    """The weirs that rounds open, for a number of basins."""
    found = []
    for told in rounds:
        if told[0] == "right":
            found.extend(list(range(1, many)))
        elif told[0] == "left":
            found.extend(list(range(many - 1, 0, -1)))
        else:
            found.extend([weir for weir in range(1, many) if weir % told[1] == told[2]])
    return found


def halvings(rounds, many):
    """How often, at most, water is halved on its way through rounds."""
    # The openings of one round of every kind but these two lie apart, and halve but once.
    return sum([many - 1 if told[0] in ("right", "left") else 1 for told in rounds])


def evened(rounds, tops):
    """The numbers behind rounds: they are told so that they can be halved as often as it takes."""
    late = list(tops)
    for weir in openings(rounds, len(late)):
        late[weir - 1] = late[weir] = (late[weir - 1] + late[weir]) >> 1
    return late


def first_unlike(one, other, many):
    """The first basin whose water alone two programs bring elsewhere, and the first place for it; None if none."""
    often = max(halvings(one.rounds, many), halvings(other.rounds, many))
    size = often + 1
    for first in range(0, many, TOGETHER):
        # The water of each of some basins has figures of its own in all numbers, which never run into one another.
        tops = [0 for _ in range(many)]
        for at in range(min(TOGETHER, many - first)):
            tops[first + at] = 1 << (often + at * size)
        here, there = evened(one.rounds, tops), evened(other.rounds, tops)
        if here != there:
            return first_apart(here, there, first, size)
    return None


def first_apart(here, there, first, size):
    """The first basin, from a first one on, whose figures are unlike in two lists, and the first place where."""
    for at in range(TOGETHER):
        for place in range(len(here)):
            if figures(here[place], at, size) != figures(there[place], at, size):
                return first + at, place
    return None


def figures(number, at, size):
    """One of the groups of so many binary figures of a number."""
    return (number >> (at * size)) & ((1 << size) - 1)
