"""Programs turned back, and what basins give to one another in a program."""

from weirlines.exact import is_integer
from weirlines.planerrors import BadStart
from weirlines.programs import Program, check_many, check_program, first_unlike

TURNED = {"right": "left", "left": "right"}


def turned_back(program):
    """The program of the rounds from the last one to the first one, each the other way."""
    check_program(program)
    return Program([turned_round(told) for told in program.rounds[::-1]])


def turned_round(told):
    # The openings of every round of the third kind lie apart, so that they are the same from both sides.
    if told[0] in TURNED:
        return (TURNED[told[0]],)
    return told


def check_basin(program, many, basin):
    check_program(program)
    check_many(many)
    if not is_integer(basin) or not 0 <= basin < many:
        raise BadStart("a basin is an integer from 0 to less than their number")


def gives(program, many, basin):
    """What each basin has behind a program of the water of one of them."""
    check_basin(program, many, basin)
    return program.done([int(at == basin) for at in range(many)])


def got(program, many, basin):
    """The shares that one basin has behind a program of the water of each."""
    # What a basin gives to this one in the program, this one gives to it in the program turned back.
    return gives(turned_back(program), many, basin)


def is_even_handed(program, many):
    """Whether each two basins give as much to one another."""
    check_program(program)
    check_many(many)
    return first_unlike(program, turned_back(program), many) is None
