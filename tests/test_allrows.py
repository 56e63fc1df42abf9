"""Points [12] and [21], and the conventions [1] for their evidence."""

import random
import unittest
from math import lcm

from tests.brute import program_done, round_openings
from weirlines.allrows import FirstUnlike, Later, SameAlways, judge_later, judge_programs, tidy_program
from weirlines.planerrors import BadProgram, Mixed
from weirlines.programs import Program

ODD, EVEN, RIGHT, LEFT = ("every", 2, 1), ("every", 2, 0), ("right",), ("left",)
THREES = [("every", 3, rest) for rest in range(3)]
FOURS = [("every", 4, rest) for rest in range(4)]
# Opened together, every fourth weir from 1 and from 3 on are every second one.
HALVES = [("every", 4, 1), ("every", 4, 3)]


def followed(rounds, many):
    """What each basin has behind rounds of each one's water: tuples of whole numbers, over a number to halve by."""
    often = sum([len(round_openings(told, many)) for told in rounds])
    rows = [[int(at == basin) << often for at in range(many)] for basin in range(many)]
    for told in rounds:
        for weir in round_openings(told, many):
            for row in rows:
                row[weir - 1] = row[weir] = (row[weir - 1] + row[weir]) // 2
    return often, rows


def unlike(one, other, many):
    """The pairs of a basin and a place at which two programs do unlike things."""
    (here, rows), (there, others) = followed(one.rounds, many), followed(other.rounds, many)
    return [(basin, place) for basin in range(many) for place in range(many)
            if rows[basin][place] << there != others[basin][place] << here]


def plain_step(one, other):
    return lcm(1, *[told[1] for told in one.rounds + other.rounds if told[0] == "every"])


def plain_most(one, other):
    longer = max(len(one), len(other))
    return plain_step(one, other) * (len(one) + len(other) + longer + 1) + longer + 1


def pairs_at_random(seed, many, kinds, most):
    """Pairs of programs some of which are always the same: rounds that do nothing, or can be exchanged."""
    rng = random.Random(seed)
    found = []
    for _ in range(many):
        rounds = [rng.choice(kinds) for _ in range(rng.randint(0, most))]
        other = list(rounds)
        for _ in range(rng.randint(0, 2)):
            at = rng.randint(0, len(other))
            change = rng.randint(0, 2)
            if change == 0 and 0 < at:
                other.insert(at, other[at - 1])
            elif change == 1 and 1 < at:
                other[at - 2:at] = [other[at - 1], other[at - 2]]
            elif at < len(other):
                other[at] = rng.choice(kinds)
        if len(other) <= most:
            found.append((Program(rounds), Program(other)))
    return found


class AlwaysTheSame(unittest.TestCase):
    def check(self, one, other):
        told = judge_programs(one, other)
        most = plain_most(one, other)
        found = [(many, *apart[0]) for many in range(1, most + 1) if (apart := unlike(one, other, many))]
        if found:
            self.assertEqual(told, FirstUnlike(*found[0]))
        else:
            self.assertEqual(told, SameAlways(most))
        self.assertIs(bool(told), not found)
        self.assertIs(told.shows(one, other), True)
        return bool(told)

    def test_against_water_in_each_basin(self):
        told = []
        for kinds, many, most in (([ODD, EVEN, RIGHT], 50, 3), ([ODD, EVEN, LEFT], 20, 2), ([RIGHT], 8, 4),
                                  (THREES + [RIGHT], 30, 2), (FOURS + [ODD, EVEN], 20, 1)):
            told.extend([self.check(one, other) for one, other in pairs_at_random(most, many, kinds, most)])
        self.assertGreater(told.count(True), 20)
        self.assertGreater(told.count(False), 20)

    def test_without_rounds(self):
        self.assertEqual(judge_programs(Program([]), Program([])), SameAlways(2))
        self.assertTrue(self.check(Program([]), Program([])))
        self.assertEqual(judge_programs(Program([]), Program([ODD])), FirstUnlike(2, 0, 0))
        self.assertEqual(judge_programs(Program([("every", 4, 0)]), Program([])), FirstUnlike(5, 3, 3))

    def test_all_kinds_of_steps_together(self):
        one, other = Program([ODD, THREES[2]]), Program(HALVES)
        self.assertEqual(judge_programs(one, other), FirstUnlike(3, 0, 1))
        self.assertFalse(judge_programs(Program([ODD, THREES[1]]), Program([ODD, THREES[1], HALVES[0]])))
        # m is 12, and both of the fours together are the round of every second weir.
        told = judge_programs(Program([ODD, THREES[2]]), Program(HALVES + [THREES[2]]))
        self.assertEqual(told, SameAlways(12 * (2 + 3 + 3 + 1) + 3 + 1))

    def test_halves_do_what_the_whole_does(self):
        self.assertEqual(judge_programs(Program([ODD]), Program(HALVES)), SameAlways(4 * 6 + 3))
        self.assertTrue(self.check(Program([ODD]), Program(HALVES)))
        self.assertTrue(self.check(Program([ODD]), Program(HALVES[::-1])))
        self.assertFalse(self.check(Program([EVEN]), Program(HALVES)))

    def test_left_alone(self):
        self.assertEqual(judge_programs(Program([LEFT]), Program([LEFT])), SameAlways(6))
        self.assertFalse(self.check(Program([LEFT]), Program([LEFT, LEFT])))
        self.assertTrue(self.check(Program([LEFT, ODD]), Program([LEFT, ODD, ODD])))

    def test_first_opening_of_a_round_does_nothing_new(self):
        # Behind every second weir from 1 on, a round to the right begins with a weir that is even already.
        self.assertFalse(self.check(Program([ODD, RIGHT]), Program([RIGHT])))

    def test_rows_of_some_hundreds_of_basins(self):
        rng = random.Random(5)
        for one, other in pairs_at_random(6, 30, [ODD, EVEN, RIGHT], 3):
            if not judge_programs(one, other):
                continue
            for many in (211, 300, 400):
                volumes = [0] * many
                for _ in range(3):
                    volumes[rng.randrange(many)] = rng.randint(1, 9)
                self.assertEqual(one.done(volumes), other.done(volumes))

    def test_spoilt_numbers(self):
        one, other = Program([ODD, ODD]), Program([ODD])
        for most in (-1, 0, 14, 16):
            self.assertIs(SameAlways(most).shows(one, other), False)
        self.assertIs(SameAlways(15).shows(one, other), True)
        self.assertFalse(SameAlways(15).shows(one, Program([EVEN])))
        self.assertFalse(FirstUnlike(2, 0, 0).shows(one, other))

    def test_spoilt_places(self):
        one, other = Program([ODD, EVEN]), Program([RIGHT])
        self.assertTrue(FirstUnlike(4, 0, 2).shows(one, other))
        for wrong in ((5, 0, 2), (3, 0, 2), (4, 1, 2), (4, 0, 3), (4, 0, 1), (4, -4, 2), (4, 0, -2), (0, 0, 0), (400, 0, 2)):
            self.assertIs(FirstUnlike(*wrong).shows(one, other), False)
        self.assertFalse(SameAlways(15).shows(one, other))

    def test_as_evidence(self):
        self.assertEqual(SameAlways(3), SameAlways(3))
        self.assertNotEqual(SameAlways(3), SameAlways(4))
        self.assertNotEqual(SameAlways(3), 3)
        self.assertEqual(FirstUnlike(4, 0, 2), FirstUnlike(4, 0, 2))
        for other in (FirstUnlike(5, 0, 2), FirstUnlike(4, 1, 2), FirstUnlike(4, 0, 3), SameAlways(4), (4, 0, 2)):
            self.assertNotEqual(FirstUnlike(4, 0, 2), other)


class Tidy(unittest.TestCase):
    def tidied(self, rounds):
        """Leaves out rounds one by one from the last one, each without which the program is always the same."""
        left = list(rounds)
        for place in reversed(range(len(rounds))):
            fewer = left[:place] + left[place + 1:]
            most = plain_most(Program(left), Program(fewer))
            if not any(unlike(Program(left), Program(fewer), many) for many in range(1, most + 1)):
                left = fewer
        return tuple(left)

    def test_against_leaving_out(self):
        rng = random.Random(7)
        shorter = 0
        for _ in range(40):
            rounds = [rng.choice([ODD, EVEN, ODD, RIGHT]) for _ in range(rng.randint(0, 4))]
            told = tidy_program(Program(rounds))
            self.assertEqual(told.rounds, self.tidied(rounds))
            shorter += len(told) < len(rounds)
        self.assertGreater(shorter, 5)

    def test_programs(self):
        for rounds, told in (([], ()), ([ODD], (ODD,)), ([ODD] * 5, (ODD,)), ([RIGHT, RIGHT], (RIGHT, RIGHT)),
                             ([ODD, *HALVES], (ODD,)), ([*HALVES, ODD], tuple(HALVES)), ([LEFT, ODD, ODD], (LEFT, ODD)),
                             ([HALVES[0], HALVES[1], HALVES[0]], tuple(HALVES))):
            program = Program(rounds)
            self.assertEqual(tidy_program(program), Program(told))
            self.assertEqual(program.rounds, tuple(rounds))
        self.assertEqual(tidy_program(Program([ODD] * 11)), Program([ODD]))


class FromSomeLengthOn(unittest.TestCase):
    def check(self, one, other, most):
        told = judge_later(one, other)
        step = plain_step(one, other)
        first = plain_most(one, other)
        self.assertEqual(told.step, step)
        for rest in range(step):
            numbers = [many for many in range(first, most + 1) if many % step == rest]
            alike = [not unlike(one, other, many) for many in numbers]
            self.assertEqual(rest in told.rests, all(alike), (one.rounds, other.rounds, rest))
        self.assertIs(bool(told), len(told.rests) == step)
        self.assertIs(told.shows(one, other), True)
        return len(told.rests)

    def test_against_many_numbers_of_basins(self):
        found = []
        for kinds, many, most in (([ODD, EVEN, RIGHT], 25, 2), ([LEFT, EVEN], 8, 1), (THREES, 10, 1)):
            found.extend([self.check(one, other, 40) for one, other in pairs_at_random(most + 10, many, kinds, most)])
        self.assertGreater(len(found), found.count(0))

    def test_rests_that_stay(self):
        one, other = Program([THREES[1]]), Program([THREES[1], THREES[1]])
        self.assertEqual(judge_later(one, other), Later(3, [0, 1, 2]))
        self.assertIs(bool(judge_later(one, other)), True)
        self.assertEqual(judge_later(Program([ODD]), Program([EVEN])), Later(2, []))
        self.assertEqual(judge_later(Program([]), Program([])), Later(1, [0]))
        self.assertEqual(judge_later(Program([RIGHT]), Program([RIGHT, RIGHT])), Later(1, []))

    def test_spoilt(self):
        one, other = Program([ODD]), Program([ODD, ODD])
        self.assertTrue(Later(2, (0, 1)).shows(one, other))
        for step, rests in ((1, [0]), (4, [0, 1, 2, 3]), (2, [0]), (2, [1]), (2, [1, 0]), (2, []), (2, [0, 0, 1]),
                            (2, [-1, 0]), (0, [])):
            self.assertIs(Later(step, rests).shows(one, other), False)
        self.assertFalse(Later(2, [0, 1]).shows(one, Program([EVEN])))
        self.assertTrue(Later(2, []).shows(one, Program([EVEN])))

    def test_as_evidence(self):
        rests = [0]
        told = Later(2, rests)
        told.rests.append(1)
        self.assertEqual(rests, [0])
        self.assertEqual(told, Later(2, [0, 1]))
        for other in (Later(2, [0]), Later(3, [0, 1]), (2, [0, 1])):
            self.assertNotEqual(told, other)
        self.assertEqual([bool(Later(2, [0, 1])), bool(Later(2, [1])), bool(Later(1, [0])), bool(Later(3, []))],
                         [True, False, True, False])


class Refused(unittest.TestCase):
    def calls(self, one, other):
        return [lambda: judge_programs(one, other), lambda: judge_later(one, other), lambda: SameAlways(1).shows(one, other),
                lambda: FirstUnlike(1, 0, 0).shows(one, other), lambda: Later(1, []).shows(one, other)]

    def check(self, one, other, error):
        for call in self.calls(one, other):
            with self.assertRaises(error) as caught:
                call()
            self.assertIsNone(getattr(caught.exception, "place", None))

    def test_no_programs(self):
        both = Program([RIGHT, LEFT])
        for wrong in (None, [ODD], (RIGHT,), "right"):
            self.check(wrong, Program([]), BadProgram)
            self.check(both, wrong, BadProgram)
            self.assertRaises(BadProgram, tidy_program, wrong)

    def test_mixed(self):
        self.check(Program([RIGHT, LEFT]), Program([]), Mixed)
        self.check(Program([]), Program([LEFT, ODD, RIGHT]), Mixed)
        self.check(Program([RIGHT]), Program([ODD, LEFT]), Mixed)
        self.check(Program([LEFT]), Program([RIGHT]), Mixed)
        self.assertRaises(Mixed, tidy_program, Program([RIGHT, ODD, LEFT]))
