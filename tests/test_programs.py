"""Point [11]."""

import random
import unittest

from tests.brute import ALL_ROUNDS, pair, program_done, round_openings
from weirlines.planerrors import BadProgram, BadStart
from weirlines.programs import Program, figures, first_unlike
from weirlines.rows import Row, behind

ODD, EVEN, RIGHT, LEFT = ("every", 2, 1), ("every", 2, 0), ("right",), ("left",)


def programs_at_random(seed, many, most=5):
    rng = random.Random(seed)
    return [Program([rng.choice(ALL_ROUNDS) for _ in range(rng.randint(0, most))]) for _ in range(many)]


class Programs(unittest.TestCase):
    def test_each_round(self):
        told = {RIGHT: [1, 2, 3, 4, 5, 6], LEFT: [6, 5, 4, 3, 2, 1], ODD: [1, 3, 5], EVEN: [2, 4, 6],
                ("every", 3, 0): [3, 6], ("every", 3, 1): [1, 4], ("every", 3, 2): [2, 5],
                ("every", 4, 0): [4], ("every", 4, 1): [1, 5], ("every", 4, 2): [2, 6], ("every", 4, 3): [3]}
        self.assertEqual(sorted(told), sorted(ALL_ROUNDS))
        for turn, order in told.items():
            self.assertEqual(Program([turn]).order(7), order)

    def test_rounds_one_behind_the_other(self):
        self.assertEqual(Program((LEFT, EVEN, ODD, RIGHT)).order(4), [3, 2, 1, 2, 1, 3, 1, 2, 3])

    def test_orders_for_many_basins(self):
        program = Program(ALL_ROUNDS)
        for many in (1, 2, 3, 400):
            told = [weir for turn in ALL_ROUNDS for weir in round_openings(turn, many)]
            self.assertEqual(program.order(many), told)
        self.assertEqual(program.order(1), [])
        self.assertEqual(Program([RIGHT]).order(400), list(range(1, 400)))
        self.assertIsInstance(Program([RIGHT]).order(400), list)

    def test_no_rounds(self):
        program = Program([])
        self.assertEqual((program.rounds, len(program), program.order(400)), ((), 0, []))
        self.assertEqual(program.done([3, (2, 4)]), ((3, 1), (1, 2)))

    def test_twelve_rounds(self):
        self.assertEqual(len(Program([RIGHT] * 12)), 12)
        self.assertEqual(Program((LEFT,) * 12).rounds, (LEFT,) * 12)

    def test_done(self):
        rng = random.Random(1)
        for program in programs_at_random(2, 60):
            volumes = [(rng.randint(-9, 9), rng.randint(1, 7)) for _ in range(rng.randint(1, 9))]
            told = tuple([pair(volume) for volume in program_done(program.rounds, volumes)])
            self.assertEqual(program.done(volumes), told)
            self.assertEqual(program.done(tuple(volumes)), told)

    def test_done_against_openings_of_the_order(self):
        rng = random.Random(3)
        for program in programs_at_random(4, 40):
            many = rng.randint(1, 12)
            volumes = tuple(rng.randint(0, 9) for _ in range(many))
            self.assertEqual(program.done(volumes), behind(Row((1,) * many, volumes), program.order(many)).volumes)

    def test_done_with_many_basins(self):
        told = Program([RIGHT]).done([1] + [0] * 399)
        self.assertEqual(told[:2], ((1, 2), (1, 4)))
        self.assertEqual(told[-2:], ((1, 2 ** 399), (1, 2 ** 399)))
        long = Program([RIGHT, LEFT] * 6).done(list(range(400)))
        self.assertEqual(sum([pair_top * (2 ** 9999 // bottom) for pair_top, bottom in long]), 399 * 200 * 2 ** 9999)
        self.assertEqual(Program([RIGHT]).done([5]), ((5, 1),))

    def test_together(self):
        both = Program([ODD, RIGHT]) + Program([LEFT])
        self.assertEqual(both.rounds, (ODD, RIGHT, LEFT))
        self.assertIsInstance(both, Program)
        self.assertEqual(Program([]) + Program([]), Program([]))
        self.assertEqual(len(Program([ODD] * 6) + Program([EVEN] * 6)), 12)
        self.assertRaises(TypeError, lambda: Program([ODD]) + (ODD,))
        one = Program([ODD])
        one + one
        self.assertEqual(one.rounds, (ODD,))

    def test_equal(self):
        self.assertEqual(Program([ODD, RIGHT]), Program((ODD, RIGHT)))
        for other in (Program([RIGHT, ODD]), Program([ODD]), (ODD, RIGHT), None):
            self.assertNotEqual(Program([ODD, RIGHT]), other)

    def test_rounds_are_a_tuple_of_their_own(self):
        rounds = [ODD]
        program = Program(rounds)
        rounds.append(EVEN)
        self.assertEqual(program.rounds, (ODD,))
        program.order(4).append(9)
        self.assertEqual(program.order(4), [1, 3])


class Refused(unittest.TestCase):
    def check(self, rounds, place):
        with self.assertRaises(BadProgram) as caught:
            Program(rounds)
        self.assertEqual(caught.exception.place, place)

    def test_no_list(self):
        for rounds in (None, "right", {}, 3, {RIGHT: 1}, [RIGHT] * 13, [None] * 13):
            self.check(rounds, None)

    def test_no_rounds(self):
        for wrong in ("right", ["right"], ("right", 1), (), ("down",), ("every",), ("every", 2), ("every", 2, 1, 0),
                      ["every", 2, 1], ("every", 1, 0), ("every", 5, 0), ("every", 2, 2), ("every", 3, -1), ("every", 2, True),
                      ("every", True, 0), ("every", "2", 1), ("every", 2, None), ("right", 2, 1), None, 3, ("left", None)):
            self.check([ODD, RIGHT, wrong, None], 2)
        self.check(("right",), 0)

    def test_too_many_together(self):
        with self.assertRaises(BadProgram) as caught:
            Program([ODD] * 6) + Program([ODD] * 7)
        self.assertIsNone(caught.exception.place)

    def test_numbers_of_basins(self):
        for many in (0, -1, 401, True, None, "3", 2.0, (3, 1)):
            self.assertRaises(BadStart, Program([ODD]).order, many)

    def test_volumes(self):
        for volumes in ([], (), None, 3, "12", {0: 1}, [0] * 401, [1, None], [True], [1.5], [(1, 0)], [(1, -1)], [[1, 2]],
                        [(1, 2, 3)]):
            self.assertRaises(BadStart, Program([]).done, volumes)


class Unlikeness(unittest.TestCase):
    """What the files above `programs` need: where two programs first do unlike things."""

    def check(self, one, other, many):
        units = [[int(at == basin) for at in range(many)] for basin in range(many)]
        told = [(basin, place) for basin, unit in enumerate(units) for place in range(many)
                if program_done(one.rounds, unit)[place] != program_done(other.rounds, unit)[place]]
        self.assertEqual(first_unlike(one, other, many), told[0] if told else None)

    def test_against_water_in_each_basin(self):
        programs = programs_at_random(5, 40, 3)
        for one, other in zip(programs, programs[1:]):
            for many in (1, 2, 3, 5, 8):
                self.check(one, other, many)

    def test_more_basins_than_are_followed_at_once(self):
        self.check(Program([("every", 4, 0)]), Program([("every", 4, 0), ("every", 4, 0)]), 20)
        self.check(Program([ODD, EVEN]), Program([EVEN, ODD]), 20)
        # Unlike only far from the first basins.
        one = Program([("every", 2, 0), ("every", 4, 0), ("every", 3, 0)])
        self.check(one, Program([("every", 3, 0), ("every", 2, 0)]), 19)

    def test_figures(self):
        self.assertEqual([figures(0b110100, at, 2) for at in range(4)], [0, 1, 3, 0])
