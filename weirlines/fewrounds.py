"""Few rounds of some kinds that always do what a program does, and the different programs of few rounds."""

from weirlines.allrows import check_unmixed, judge_programs
from weirlines.exact import is_integer
from weirlines.planerrors import BadProgram, BadStart
from weirlines.programs import Program, check_program, is_round

MOST_KINDS = 5
MOST_FEW_ROUNDS = 3


class FewRounds:
    """As few rounds as can be that always do what a program does, and where fewer ones first do not."""

    def __init__(self, rounds, against):
        self.rounds = tuple(rounds)
        self.against = {fewer: against[fewer] for fewer in against}

    def __eq__(self, other):
        return isinstance(other, FewRounds) and self.rounds == other.rounds and self.against == other.against

    def __bool__(self):
        return True

    def shows(self, program, kinds):
        found = few_rounds(program, kinds)
        if found is None or len(self.rounds) != len(found.rounds) or self.against != found.against:
            return False
        if not all([told in kinds for told in self.rounds]):
            return False
        return bool(judge_programs(program, Program(self.rounds)))


def check_kinds(kinds):
    if not isinstance(kinds, (list, tuple)) or len(kinds) > MOST_KINDS:
        raise BadProgram(None)
    for place, told in enumerate(kinds):
        if not is_round(told) or told in kinds[:place]:
            raise BadProgram(place)


def tuples_of(kinds, longest):
    """All tuples of at most so many of the kinds, shorter ones first, then in the order of the kinds."""
    found = [()]
    latest = [()]
    for _ in range(longest):
        latest = [(*told, kind) for told in latest for kind in kinds]
        found.extend(latest)
    return found


def few_rounds(program, kinds):
    """The first tuple of at most three rounds of the kinds that always does what a program does, or None."""
    check_kinds(kinds)
    check_program(program)
    check_unmixed([*program.rounds, *kinds])
    unlike = {}
    for rounds in tuples_of(kinds, MOST_FEW_ROUNDS):
        found = judge_programs(program, Program(rounds))
        if found:
            return FewRounds(rounds, {fewer: unlike[fewer] for fewer in unlike if len(fewer) < len(rounds)})
        unlike[rounds] = (found.many, found.basin, found.place)
    return None


def different_programs(kinds, longest):
    """The first tuples of at most so many rounds of the kinds, none of which is always the same as one ahead."""
    check_kinds(kinds)
    if not is_integer(longest) or not 0 <= longest <= MOST_FEW_ROUNDS:
        raise BadStart("so many rounds are an integer from 0 to 3")
    check_unmixed(kinds)
    found = []
    for rounds in tuples_of(kinds, longest):
        program = Program(rounds)
        if not any([judge_programs(other, program) for other in found]):
            found.append(program)
    return [program.rounds for program in found]
