"""What programs bring into the last basins, for all numbers of basins: recurrences that tell it."""

from weirlines.exact import is_exact, is_integer, minus, plus, reduced, times
from weirlines.planerrors import BadStart
from weirlines.programs import check_program, evened, halvings

STARTS = ("ones", "first", "last", "stairs")
MOST_BACK = 5
MOST_TRIED = 300
MOST_FACTORS = 60


class Recurrence:
    """The first amounts, as many as there are factors; each later one is the sum of so many ahead, times these."""

    def __init__(self, factors, firsts):
        self.factors = list(factors)
        self.firsts = list(firsts)

    def __eq__(self, other):
        return isinstance(other, Recurrence) and self.factors == other.factors and self.firsts == other.firsts

    def __bool__(self):
        return True

    def __len__(self):
        return len(self.factors)

    def shows(self, program, start, back):
        check_asked(program, start, back)
        if len(self.factors) != len(self.firsts):
            return False
        if not all([is_exact(number) for number in self.factors + self.firsts]):
            return False
        # Two recurrences tell the same if they do so for as many numbers as they have factors together.
        many = len(self.factors) + MOST_FACTORS
        return told_by(self.factors, self.firsts, many) == first_amounts(program, start, back, many)

    def value(self, number):
        """The amount with a number, from 0."""
        return told_by(self.factors, self.firsts, number + 1)[number]


def check_asked(program, start, back):
    check_program(program)
    if start not in STARTS:
        raise BadStart("a start is one of four words")
    if not is_integer(back) or not 0 <= back <= MOST_BACK:
        raise BadStart("so many basins behind are an integer from 0 to 5")


def started(start, many):
    """The volumes that a start tells for a number of basins."""
    if start == "ones":
        return [1 for _ in range(many)]
    if start == "stairs":
        return list(range(1, many + 1))
    alone = 0 if start == "first" else many - 1
    return [int(at == alone) for at in range(many)]


def amount_at(program, start, back, many):
    """The volume of the basin that has so many others behind it."""
    often = halvings(program.rounds, many)
    tops = [volume << often for volume in started(start, many)]
    return reduced(evened(program.rounds, tops)[many - 1 - back], 1 << often)


def first_amounts(program, start, back, many):
    """The amounts for so many numbers of basins, from the least one on."""
    return [amount_at(program, start, back, back + 1 + at) for at in range(many)]


def amount(program, start, back, many):
    """The volume behind a program of the basin that has so many others behind it, for a number of basins."""
    check_asked(program, start, back)
    if not is_integer(many) or not back < many <= MOST_TRIED:
        raise BadStart("a number of basins is an integer from 1 to 300, more than stand behind")
    return amount_at(program, start, back, many)


def amounts(program, start, back, most):
    """The list of these for so many numbers of basins: one more than stand behind, two more, and so on."""
    check_asked(program, start, back)
    if not is_integer(most) or not 1 <= most <= MOST_TRIED - back:
        raise BadStart("so many numbers of basins are an integer from 1 on, the last one at most 300")
    return first_amounts(program, start, back, most)


def recurrence(program, start, back):
    """The recurrence of these with as few factors as can be."""
    check_asked(program, start, back)
    # Twice as many numbers as a recurrence has factors leave no other one with so few.
    numbers = first_amounts(program, start, back, 2 * MOST_FACTORS)
    factors = fewest_factors(numbers)
    return Recurrence(factors, numbers[:len(factors)])


def told_by(factors, firsts, many):
    """The first so many numbers that a recurrence tells."""
    found = firsts[:many]
    while len(found) < many:
        found.append(dot(factors, found[len(found) - len(factors):]))
    return found


def dot(factors, numbers):
    """The sum of numbers, each times its factor."""
    total = (0, 1)
    for factor, number in zip(factors, numbers):
        total = plus(total, times(factor, number))
    return total


def fewest_factors(numbers):
    """The factors of a recurrence that tells all these numbers, as few as can be: as Berlekamp and Massey find them.

    Weights are those of a number, 1, and of the ones ahead of it, the latest first; with all of them the sum is 0.
    """
    weights, size = [(1, 1)], 0
    # What told all numbers ahead of the one at which more factors were last needed, and by how much it missed that.
    earlier, missed, since = [(1, 1)], (1, 1), 0
    for at in range(len(numbers)):
        since += 1
        off = dot(weights, numbers[at::-1])
        if off == (0, 1):
            continue
        mended = mend(weights, earlier, since, times(off, reduced_inverse(missed)))
        if 2 * size <= at:
            earlier, missed, since, size = weights, off, 0, at + 1 - size
        weights = mended
    return [minus((0, 1), weight) for weight in weights[:0:-1]]


def mend(weights, earlier, since, part):
    """Weights less a part of earlier ones, which stand so many numbers further back."""
    found = weights + [(0, 1)] * (since + len(earlier) - len(weights))
    for at, weight in enumerate(earlier):
        found[since + at] = minus(found[since + at], times(part, weight))
    return found


def reduced_inverse(number):
    """1 over a number that is not 0."""
    top, bottom = number
    return (bottom, top) if top > 0 else (-bottom, -top)
