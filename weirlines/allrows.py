"""Programs that do the same to all volumes of all numbers of basins, or from some number on."""

from math import lcm

from weirlines.planerrors import Mixed
from weirlines.programs import Program, check_program, first_unlike


class SameAlways:
    """Two programs are always the same; they need be held against one another for `most` basins at most."""

    def __init__(self, most):
        self.most = most

    def __eq__(self, other):
        return isinstance(other, SameAlways) and self.most == other.most

    def __bool__(self):
        return True

    def shows(self, one, other):
        return judge_programs(one, other) == self


class FirstUnlike:
    """Two programs are unlike: the least number of basins, the first basin with water alone, the first place then."""

    def __init__(self, many, basin, place):
        self.many = many
        self.basin = basin
        self.place = place

    def __eq__(self, other):
        return (isinstance(other, FirstUnlike) and self.many == other.many and self.basin == other.basin
                and self.place == other.place)

    def __bool__(self):
        return False

    def shows(self, one, other):
        return judge_programs(one, other) == self


class Later:
    """The rests by a step, of numbers of basins, for which two programs do the same from some number on."""

    def __init__(self, step, rests):
        self.step = step
        self.rests = list(rests)

    def __eq__(self, other):
        return isinstance(other, Later) and self.step == other.step and self.rests == other.rests

    def __bool__(self):
        return bool(len(self.rests) == self.step)

    def shows(self, one, other):
        return judge_later(one, other) == self


def check_pair(one, other):
    check_program(one)
    check_program(other)
    check_unmixed(one.rounds + other.rounds)


def check_unmixed(rounds):
    if are_mixed(rounds):
        raise Mixed("rounds to the right and to the left")


def are_mixed(rounds):
    """Whether there are rounds to the right and to the left among some."""
    return ("right",) in rounds and ("left",) in rounds


def common_step(one, other):
    """The least number that all steps of the rounds divide: 1 if there are none."""
    step = 1
    for told in one.rounds + other.rounds:
        if told[0] == "every":
            step = lcm(step, told[1])
    return step


def enough(one, other):
    """So many basins that two programs do unlike things to some of at most so many, if they ever do."""
    longer = max(len(one), len(other))
    return common_step(one, other) * (len(one) + len(other) + longer + 1) + longer + 1


def judge_programs(one, other):
    """Whether two programs do the same to all volumes of all numbers of basins, or where they first do not."""
    check_pair(one, other)
    most = enough(one, other)
    for many in range(1, most + 1):
        found = first_unlike(one, other, many)
        if found is not None:
            return FirstUnlike(many, found[0], found[1])
    return SameAlways(most)


def tidy_program(program):
    """What is left of a program without each round, from the last one on, without which it is always the same."""
    check_pair(program, program)
    left = program
    for place in reversed(range(len(program))):
        fewer = Program(left.rounds[:place] + left.rounds[place + 1:])
        if judge_programs(left, fewer):
            left = fewer
    return left


def judge_later(one, other):
    """The rests of numbers of basins for which two programs do the same from some number on."""
    check_pair(one, other)
    step = common_step(one, other)
    first = enough(one, other)
    more = step * (len(one) + len(other) + max(len(one), len(other)))
    unlike = [many % step for many in range(first, first + more + 1) if first_unlike(one, other, many) is not None]
    return Later(step, [rest for rest in range(step) if rest not in unlike])
