"""Point [13], and the conventions [1] for its evidence."""

import random
import unittest
from fractions import Fraction

from tests.brute import fraction, pair, program_done
from weirlines.amounts import Recurrence, amount, amounts, recurrence
from weirlines.planerrors import BadProgram, BadStart
from weirlines.programs import Program

ODD, EVEN, RIGHT, LEFT = ("every", 2, 1), ("every", 2, 0), ("right",), ("left",)
THREES = [("every", 3, rest) for rest in range(3)]
STARTS = ("ones", "first", "last", "stairs")


def started(start, many):
    return {"ones": [1] * many, "first": [1] + [0] * (many - 1), "last": [0] * (many - 1) + [1],
            "stairs": list(range(1, many + 1))}[start]


def plain_amount(rounds, start, back, many):
    return program_done(rounds, started(start, many))[many - 1 - back]


def rank(rows):
    """How many of the rows do not come of others."""
    rows = [list(row) for row in rows]
    found = 0
    for column in range(len(rows[0]) if rows else 0):
        lead = next((at for at in range(found, len(rows)) if rows[at][column]), None)
        if lead is None:
            continue
        rows[found], rows[lead] = rows[lead], rows[found]
        for at in range(found + 1, len(rows)):
            part = rows[at][column] / rows[found][column]
            rows[at] = [one - part * other for one, other in zip(rows[at], rows[found])]
        found += 1
    return found


def programs_at_random(seed, many):
    rng = random.Random(seed)
    found = []
    for _ in range(many):
        kinds = rng.choice([[ODD, EVEN, RIGHT], [*THREES, RIGHT]])
        found.append(Program([rng.choice(kinds) for _ in range(rng.randint(0, 4))]))
    return found


class Amounts(unittest.TestCase):
    def test_all_starts_and_basins(self):
        for program in [*programs_at_random(1, 6), Program([LEFT, ("every", 4, 1)])]:
            for start in STARTS:
                for back in range(6):
                    told = [pair(plain_amount(program.rounds, start, back, many)) for many in range(back + 1, back + 9)]
                    self.assertEqual([amount(program, start, back, many) for many in range(back + 1, back + 9)], told)
                    self.assertEqual(amounts(program, start, back, 8), told)
                    self.assertEqual(amounts(program, start, back, 1), told[:1])

    def test_starts(self):
        nothing = Program([])
        for start, told in (("ones", [1, 1, 1, 1]), ("first", [0, 0, 0, 1]), ("last", [1, 0, 0, 0]), ("stairs", [4, 3, 2, 1])):
            self.assertEqual([amount(nothing, start, back, 4) for back in range(4)], [(number, 1) for number in told])

    def test_against_done_on_the_volumes(self):
        program = Program([RIGHT, THREES[2], RIGHT])
        for many in (6, 57, 300):
            late = program.done(started("stairs", many))
            for back in range(6):
                self.assertEqual(amount(program, "stairs", back, many), late[many - 1 - back])

    def test_many_numbers_of_basins(self):
        told = amounts(Program([RIGHT]), "first", 0, 300)
        self.assertEqual(told, [(1, 1)] + [(1, 2 ** many) for many in range(1, 300)])
        self.assertEqual(len(amounts(Program([RIGHT]), "ones", 5, 295)), 295)


class Recurrences(unittest.TestCase):
    def check(self, program, start, back):
        told = recurrence(program, start, back)
        many = len(told)
        self.assertEqual((len(told.factors), len(told.firsts)), (many, many))
        true = [plain_amount(program.rounds, start, back, back + 1 + at) for at in range(2 * many + 12)]
        self.assertEqual([fraction(first) for first in told.firsts], true[:many])
        factors = [fraction(factor) for factor in told.factors]
        for at in range(many, len(true)):
            self.assertEqual(sum(factor * number for factor, number in zip(factors, true[at - many:at])), true[at])
        for at, number in enumerate(true):
            self.assertEqual(told.value(at), pair(number))
        # With fewer factors, the rows of so many amounts, each one further, would come of fewer ones.
        self.assertEqual(rank([[Fraction(true[one + two]) for two in range(many + 5)] for one in range(many + 5)]), many)
        self.assertTrue(all(factor == pair(fraction(factor)) for factor in told.factors))
        self.assertIs(told.shows(program, start, back), True)
        return told

    def test_against_plain_amounts(self):
        rng = random.Random(2)
        for program in programs_at_random(3, 40):
            self.check(program, rng.choice(STARTS), rng.randint(0, 5))

    def test_all_starts_and_basins(self):
        for start in STARTS:
            for back in range(6):
                self.check(Program([ODD, RIGHT]), start, back)

    def test_many_factors(self):
        told = self.check(Program([RIGHT, RIGHT, THREES[1], RIGHT]), "stairs", 0)
        self.assertEqual(len(told), 14)

    def test_far_out(self):
        for program in (Program([RIGHT, ODD, RIGHT, EVEN]), Program([RIGHT] * 4), Program(THREES)):
            for start in STARTS:
                told = recurrence(program, start, 2)
                for many in (100, 200, 300):
                    self.assertEqual(told.value(many - 3), amount(program, start, 2, many))

    def test_values_beyond_three_hundred_basins(self):
        self.assertEqual(recurrence(Program([RIGHT]), "first", 0).value(2000), (1, 2 ** 2000))
        self.assertEqual(recurrence(Program([]), "stairs", 0).value(5000), (5001, 1))

    def test_no_factors(self):
        for program, start, back in ((Program([]), "last", 1), (Program([]), "last", 5), (Program([RIGHT]), "last", 2),
                                     (Program([ODD]), "last", 4)):
            told = recurrence(program, start, back)
            self.assertEqual(told, Recurrence([], []))
            self.assertEqual((len(told), bool(told), told.value(0), told.value(77)), (0, True, (0, 1), (0, 1)))
            self.assertTrue(told.shows(program, start, back))
        self.assertFalse(Recurrence([], []).shows(Program([]), "last", 0))

    def test_factors_that_are_zero(self):
        self.assertEqual(recurrence(Program([]), "first", 3), Recurrence([(0, 1)], [(1, 1)]))
        self.assertEqual(recurrence(Program([]), "ones", 3), Recurrence([(1, 1)], [(1, 1)]))
        self.assertEqual(recurrence(Program([]), "stairs", 0), Recurrence([(-1, 1), (2, 1)], [(1, 1), (2, 1)]))

    def test_more_factors_than_needed(self):
        program = Program([RIGHT])
        self.assertTrue(Recurrence([(0, 1), (1, 2)], [(1, 1), (1, 2)]).shows(program, "first", 0))
        self.assertTrue(Recurrence([(1, 4), (0, 1)], [(1, 1), (1, 2)]).shows(program, "first", 0))
        self.assertFalse(Recurrence([(1, 4), (1, 4)], [(1, 1), (1, 2)]).shows(program, "first", 0))
        self.assertTrue(Recurrence(((7, 1),), ((0, 1),)).shows(program, "last", 2))
        told = recurrence(program, "stairs", 0)
        many = 90
        factors = [(0, 1)] * (many - len(told)) + told.factors
        self.assertTrue(Recurrence(factors, amounts(program, "stairs", 0, many)).shows(program, "stairs", 0))
        # Only the amounts behind the first ones tell that the last factor is wrong.
        factors[-1] = (factors[-1][0] + 1, factors[-1][1])
        self.assertFalse(Recurrence(factors, amounts(program, "stairs", 0, many)).shows(program, "stairs", 0))

    def test_spoilt(self):
        program = Program([RIGHT, ODD])
        told = recurrence(program, "stairs", 1)
        self.assertGreater(len(told), 1)
        for at in range(len(told)):
            for wrong in ((told.factors[at][0] + 1, told.factors[at][1]), (1, 0), (1, -1), (0, 0)):
                factors = told.factors[:at] + [wrong] + told.factors[at + 1:]
                self.assertIs(Recurrence(factors, told.firsts).shows(program, "stairs", 1), False)
            for wrong in ((told.firsts[at][0] + 1, told.firsts[at][1]), (1, 0), (-1, -1)):
                firsts = told.firsts[:at] + [wrong] + told.firsts[at + 1:]
                self.assertIs(Recurrence(told.factors, firsts).shows(program, "stairs", 1), False)
        for factors, firsts in ((told.factors[1:], told.firsts), (told.factors, told.firsts[:-1]), ([], told.firsts),
                                (told.factors, []), ([(0, 1)] + told.factors, told.firsts)):
            self.assertIs(Recurrence(factors, firsts).shows(program, "stairs", 1), False)
        self.assertIs(Recurrence([], [(0, 1)]).shows(Program([]), "last", 2), False)
        for other in (("ones", 1), ("stairs", 2)):
            self.assertFalse(told.shows(program, *other))
        self.assertFalse(told.shows(Program([ODD, RIGHT]), "stairs", 1))

    def test_wrong_far_behind_the_first_amounts(self):
        factors, firsts = [(0, 1)] * 50, [(0, 1)] * 50
        self.assertTrue(Recurrence(factors, firsts).shows(Program([]), "last", 3))
        self.assertTrue(Recurrence([(0, 1)] + factors, [(1, 1)] + firsts).shows(Program([]), "first", 0))
        # The first one comes again behind 51 others.
        self.assertFalse(Recurrence([(1, 1)] + factors, [(1, 1)] + firsts).shows(Program([]), "first", 0))

    def test_as_evidence(self):
        factors, firsts = [(1, 2)], [(1, 1)]
        told = Recurrence(factors, firsts)
        self.assertEqual(told, Recurrence(tuple(factors), tuple(firsts)))
        for other in (Recurrence([(1, 3)], firsts), Recurrence(factors, [(2, 1)]), Recurrence([], []), (factors, firsts)):
            self.assertNotEqual(told, other)
        self.assertIs(bool(told), True)
        told.factors.append((1, 1))
        told.firsts.append((1, 1))
        self.assertEqual((factors, firsts), ([(1, 2)], [(1, 1)]))
        firsts = recurrence(Program([RIGHT]), "first", 0).firsts
        told = Recurrence(factors, firsts)
        told.value(5)
        self.assertEqual(told.firsts, firsts)


class Refused(unittest.TestCase):
    def calls(self, program, start, back):
        return [lambda: amount(program, start, back, 7), lambda: amounts(program, start, back, 7),
                lambda: recurrence(program, start, back), lambda: Recurrence([], []).shows(program, start, back)]

    def test_programs(self):
        for wrong in (None, [ODD], (RIGHT,), "right"):
            for call in self.calls(wrong, "none", 9):
                with self.assertRaises(BadProgram) as caught:
                    call()
                self.assertIsNone(caught.exception.place)

    def test_starts_and_basins(self):
        program = Program([ODD])
        for start, back in (("one", 0), ("", 0), (None, 0), (["ones"], 0), (("ones", "first"), 0), (0, 0), ("ones", -1),
                            ("ones", 6), ("ones", True), ("ones", None), ("ones", "0"), ("ones", 1.0)):
            for call in self.calls(program, start, back):
                self.assertRaises(BadStart, call)

    def test_numbers_of_basins(self):
        program = Program([ODD])
        for many in (-1, 0, 2, 301, True, None, "9", 9.0):
            self.assertRaises(BadStart, amount, program, "ones", 2, many)
        self.assertEqual(amount(program, "ones", 2, 3), (1, 1))
        for most in (-1, 0, 299, 301, True, None, "9", 9.0):
            self.assertRaises(BadStart, amounts, program, "ones", 2, most)
        self.assertEqual(len(amounts(Program([]), "ones", 2, 298)), 298)
