"""Point [20]."""

import random
import unittest

from tests.brute import ALL_ROUNDS, pair, program_done
from weirlines.planerrors import BadProgram, BadStart
from weirlines.programs import Program
from weirlines.turning import gives, got, is_even_handed, turned_back

ODD, EVEN, RIGHT, LEFT = ("every", 2, 1), ("every", 2, 0), ("right",), ("left",)


def programs_at_random(seed, many):
    rng = random.Random(seed)
    return [Program([rng.choice(ALL_ROUNDS) for _ in range(rng.randint(0, 5))]) for _ in range(many)]


def columns(program, many):
    """What each basin gives to each, as fractions."""
    return [program_done(program.rounds, [int(at == basin) for at in range(many)]) for basin in range(many)]


class TurnedBack(unittest.TestCase):
    def test_rounds(self):
        self.assertEqual(turned_back(Program([ODD, RIGHT, ("every", 4, 3), LEFT])).rounds,
                         (RIGHT, ("every", 4, 3), LEFT, ODD))
        self.assertEqual(turned_back(Program([])), Program([]))
        self.assertIsInstance(turned_back(Program([ODD])), Program)

    def test_twice(self):
        for program in programs_at_random(1, 40):
            before = program.rounds
            self.assertEqual(turned_back(turned_back(program)), program)
            self.assertEqual(program.rounds, before)

    def test_gives_and_got(self):
        for program in programs_at_random(2, 40):
            for many in (1, 2, 5, 7):
                told = columns(program, many)
                for basin in range(many):
                    self.assertEqual(gives(program, many, basin), tuple([pair(part) for part in told[basin]]))
                    self.assertEqual(got(program, many, basin), tuple([pair(part[basin]) for part in told]))

    def test_against_the_program_turned_back(self):
        for program in programs_at_random(3, 30):
            other = turned_back(program)
            for basin in range(6):
                self.assertEqual(gives(program, 6, basin), got(other, 6, basin))
                self.assertEqual(got(program, 6, basin), gives(other, 6, basin))
            for one in range(6):
                for two in range(6):
                    self.assertEqual(gives(program, 6, one)[two], gives(other, 6, two)[one])

    def test_one_basin_and_many(self):
        program = Program([RIGHT, ("every", 3, 2)])
        self.assertEqual((gives(program, 1, 0), got(program, 1, 0)), (((1, 1),), ((1, 1),)))
        self.assertEqual(gives(Program([RIGHT]), 400, 0)[399], (1, 2 ** 399))
        self.assertEqual(got(Program([RIGHT]), 400, 399)[0], (1, 2 ** 399))
        self.assertEqual(got(Program([LEFT]), 400, 0)[399], (1, 2 ** 399))
        self.assertEqual(len(got(program, 400, 7)), 400)


class EvenHanded(unittest.TestCase):
    def test_against_what_basins_give(self):
        seen = set()
        for program in programs_at_random(4, 120):
            for many in (1, 2, 3, 4, 6, 9):
                told = columns(program, many)
                even = all(told[one][two] == told[two][one] for one in range(many) for two in range(many))
                self.assertIs(is_even_handed(program, many), even)
                seen.add((many > 2, even))
        self.assertEqual(len(seen), 3)

    def test_programs(self):
        for rounds, told in (([ODD, EVEN, ODD], True), ([RIGHT, LEFT], True), ([ODD, EVEN], False), ([RIGHT], False),
                             ([], True), ([ODD], True), ([LEFT, RIGHT], True)):
            self.assertIs(is_even_handed(Program(rounds), 400), told)
            self.assertIs(is_even_handed(Program(rounds), 1), True)
            self.assertIs(is_even_handed(Program(rounds), 2), True)
            self.assertIs(is_even_handed(Program(rounds), 30), told)


class Refused(unittest.TestCase):
    def test_programs(self):
        for wrong in (None, [ODD], (ODD,), "right"):
            for call in (lambda: turned_back(wrong), lambda: gives(wrong, 0, 9), lambda: got(wrong, 0, 9),
                         lambda: is_even_handed(wrong, 0)):
                with self.assertRaises(BadProgram) as caught:
                    call()
                self.assertIsNone(caught.exception.place)

    def test_numbers_of_basins(self):
        program = Program([ODD])
        for many in (0, -1, 401, True, None, "3", 2.0):
            self.assertRaises(BadStart, gives, program, many, 0)
            self.assertRaises(BadStart, got, program, many, 0)
            self.assertRaises(BadStart, is_even_handed, program, many)

    def test_basins(self):
        program = Program([ODD])
        for basin in (-1, 3, True, False, None, "1", 1.0):
            self.assertRaises(BadStart, gives, program, 3, basin)
            self.assertRaises(BadStart, got, program, 3, basin)
