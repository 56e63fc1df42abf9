"""Points [22] and [23], and the conventions [1] for their evidence."""

import random
import unittest
from fractions import Fraction

from tests.brute import ALL_ROUNDS, fraction, pair, program_done, round_openings
from weirlines.laps import (EvenAlways, LapRecurrence, LapsDone, LapsLeft, Parted, judge_even, judge_laps, lap_limit,
                            lap_recurrence, lapped, left_behind, moved, stretches)
from weirlines.planerrors import BadProgram, BadStart
from weirlines.programs import Program

ODD, EVEN, RIGHT, LEFT = ("every", 2, 1), ("every", 2, 0), ("right",), ("left",)


def random_program(rng, most=4):
    return Program([rng.choice(ALL_ROUNDS) for _ in range(rng.randint(0, most))])


def random_volumes(rng, many):
    return [(rng.randint(-5, 9), rng.randint(1, 3)) if rng.random() < 0.5 else rng.randint(-3, 6) for _ in range(many)]


def plain_laps(program, volumes, laps):
    """The volumes behind 0, 1, .. laps."""
    found = [[fraction(volume) for volume in volumes]]
    for _ in range(laps):
        found.append(program_done(program.rounds, found[-1]))
    return found


def plain_stretches(program, many):
    opened = {weir for told in program.rounds for weir in round_openings(told, many)}
    ends = [0] + [weir for weir in range(1, many) if weir not in opened] + [many]
    return list(zip(ends, ends[1:]))


def plain_limit(program, volumes):
    found = []
    for first, end in plain_stretches(program, len(volumes)):
        water = sum(fraction(volume) for volume in volumes[first:end])
        found.extend([water / (end - first)] * (end - first))
    return found


def offs(program, many, laps):
    """For 0, 1, .. laps what is left in each place, for 1 in each basin alone."""
    found = []
    for basin in range(many):
        lone = [int(at == basin) for at in range(many)]
        aim = plain_limit(program, lone)
        found.append([[own - want for own, want in zip(late, aim)] for late in plain_laps(program, lone, laps)])
    return found


class Lapped(unittest.TestCase):
    def test_against_plain_plays(self):
        rng = random.Random(1)
        for _ in range(80):
            program, volumes = random_program(rng), random_volumes(rng, rng.randint(1, 8))
            laps = rng.randint(0, 6)
            told = lapped(program, volumes, laps)
            self.assertIsInstance(told, tuple)
            self.assertEqual(told, tuple(pair(volume) for volume in plain_laps(program, volumes, laps)[-1]))

    def test_none_one_and_many(self):
        program, volumes = Program([ODD, EVEN, RIGHT]), [8, (2, 4), -3, 0, 9]
        self.assertEqual(lapped(program, volumes, 0), ((8, 1), (1, 2), (-3, 1), (0, 1), (9, 1)))
        self.assertEqual(lapped(program, volumes, 1), program.done(volumes))
        late = tuple(volumes)
        for _ in range(200):
            late = program.done(late)
        self.assertEqual(lapped(program, tuple(volumes), 200), late)
        self.assertEqual(lapped(Program([]), [(4, 2)], 200), ((2, 1),))

    def test_many_rounds_of_many_basins(self):
        program = Program([RIGHT, LEFT] * 6)
        self.assertEqual(sum(map(fraction, lapped(program, [int(at == 3) for at in range(24)], 200))), 1)


class Limits(unittest.TestCase):
    def test_stretches(self):
        rng = random.Random(2)
        for _ in range(100):
            program, many = random_program(rng, 3), rng.randint(1, 14)
            self.assertEqual(stretches(program, many), plain_stretches(program, many))
        self.assertEqual(stretches(Program([ODD]), 5), [(0, 2), (2, 4), (4, 5)])
        self.assertEqual(stretches(Program([]), 3), [(0, 1), (1, 2), (2, 3)])
        self.assertEqual(stretches(Program([LEFT]), 1), [(0, 1)])

    def test_limits(self):
        rng = random.Random(3)
        for _ in range(80):
            program, volumes = random_program(rng), random_volumes(rng, rng.randint(1, 9))
            told = lap_limit(program, volumes)
            self.assertIsInstance(told, tuple)
            self.assertEqual(told, tuple(pair(volume) for volume in plain_limit(program, volumes)))

    def test_laps_come_near(self):
        rng = random.Random(4)
        for _ in range(15):
            program, volumes = random_program(rng), random_volumes(rng, rng.randint(1, 6))
            for late, aim in zip(lapped(program, volumes, 150), lap_limit(program, volumes)):
                self.assertLess(abs(fraction(late) - fraction(aim)), Fraction(1, 1000))

    def test_left_behind(self):
        rng = random.Random(5)
        for _ in range(40):
            program, many, laps = random_program(rng), rng.randint(1, 7), rng.randint(0, 5)
            found = max(abs(off) for by_laps in offs(program, many, laps) for off in by_laps[laps])
            self.assertEqual(left_behind(program, many, laps), pair(found))
        self.assertEqual(left_behind(Program([ODD, EVEN]), 3, 1), (1, 3))
        self.assertEqual(left_behind(Program([]), 3, 200), (0, 1))
        self.assertEqual(left_behind(Program([RIGHT]), 1, 0), (0, 1))

    def test_left_behind_many_laps(self):
        program = Program([ODD, EVEN])
        told = [fraction(left_behind(program, 9, laps)) for laps in (0, 1, 10, 100, 200)]
        self.assertEqual(told, sorted(told, reverse=True))
        self.assertTrue(0 < told[-1] < Fraction(1, 10 ** 6))

    def test_moved(self):
        rng = random.Random(6)
        for _ in range(60):
            program, volumes, laps = random_program(rng), random_volumes(rng, rng.randint(1, 7)), rng.randint(0, 6)
            late = plain_laps(program, volumes, laps)
            told = moved(program, volumes, laps)
            self.assertIsInstance(told, list)
            self.assertEqual(told, [pair(sum(abs(one - other) for one, other in zip(early, end)))
                                    for early, end in zip(late, late[1:])])
        self.assertEqual(moved(Program([RIGHT]), [4, 0], 3), [(4, 1), (0, 1), (0, 1)])
        self.assertEqual(moved(Program([RIGHT]), [4, 0], 0), [])
        self.assertEqual(len(moved(Program([RIGHT, LEFT]), list(range(24)), 200)), 200)


class JudgeLaps(unittest.TestCase):
    def test_against_plain_plays(self):
        rng = random.Random(7)
        seen = set()
        for _ in range(120):
            program, many = random_program(rng), rng.randint(1, 7)
            found = offs(program, many, many)
            left = [(basin, place) for basin in range(many) for place in range(many) if found[basin][many][place] != 0]
            told = judge_laps(program, many)
            if left:
                self.assertEqual(told, LapsLeft(*left[0]))
            else:
                least = min(laps for laps in range(many + 1)
                            if not any(off for by_laps in found for off in by_laps[laps]))
                self.assertEqual(told, LapsDone(least))
                seen.add(f"done {least}")
            self.assertTrue(told.shows(program, many))
            self.assertIs(bool(told), not left)
            for basin in range(-1, many + 1):
                for place in range(-1, many + 1):
                    self.assertIs(LapsLeft(basin, place).shows(program, many), (basin, place) in left)
            for laps in range(-1, many + 2):
                self.assertIs(LapsDone(laps).shows(program, many), told == LapsDone(laps))
            seen.add(bool(left))
        self.assertEqual(seen, {True, False, "done 0", "done 1"})

    def test_by_hand(self):
        self.assertEqual(judge_laps(Program([ODD]), 5), LapsDone(1))
        self.assertEqual(judge_laps(Program([]), 5), LapsDone(0))
        self.assertEqual(judge_laps(Program([EVEN]), 2), LapsDone(0))
        self.assertEqual(judge_laps(Program([ODD, EVEN]), 3), LapsLeft(0, 0))
        self.assertEqual(judge_laps(Program([RIGHT]), 1), LapsDone(0))
        self.assertIsInstance(judge_laps(Program([RIGHT, LEFT]), 24), LapsLeft)


class Recurrences(unittest.TestCase):
    def told_by(self, told, many):
        found = [fraction(first) for first in told.firsts][:many]
        while len(found) < many:
            found.append(sum((fraction(factor) * number for factor, number in
                              zip(told.factors, found[len(found) - len(told.factors):])), Fraction(0)))
        return found

    def fewer(self, numbers, many):
        """Whether there are so many factors that tell all these numbers."""
        rows = [numbers[at:at + many] + [numbers[at + many]] for at in range(len(numbers) - many)]
        return self.rank([row[:-1] for row in rows]) == self.rank(rows)

    def rank(self, rows):
        rows, found = [list(row) for row in rows], 0
        for column in range(len(rows[0]) if rows else 0):
            pivot = next((row for row in range(found, len(rows)) if rows[row][column] != 0), None)
            if pivot is None:
                continue
            rows[found], rows[pivot] = rows[pivot], rows[found]
            for row in range(found + 1, len(rows)):
                part = rows[row][column] / rows[found][column]
                rows[row] = [own - part * other for own, other in zip(rows[row], rows[found])]
            found += 1
        return found

    def test_against_many_laps(self):
        rng = random.Random(8)
        seen = set()
        for _ in range(80):
            program, volumes = random_program(rng), random_volumes(rng, rng.randint(1, 7))
            basin = rng.randrange(len(volumes))
            told = lap_recurrence(program, volumes, basin)
            self.assertIsInstance(told, LapRecurrence)
            self.assertEqual(len(told), len(told.factors))
            self.assertEqual(len(told.firsts), len(told.factors))
            numbers = [late[basin] for late in plain_laps(program, volumes, 30)]
            self.assertEqual(self.told_by(told, 31), numbers)
            self.assertTrue(told.shows(program, volumes, basin))
            if len(told):
                self.assertFalse(self.fewer(numbers, len(told) - 1))
            seen.add(len(told))
        self.assertLessEqual({0, 1, 2, 3}, seen)

    def test_by_hand(self):
        told = lap_recurrence(Program([ODD, EVEN]), [4, 0, 0], 0)
        self.assertEqual(told, LapRecurrence([(-1, 4), (5, 4)], [(4, 1), (2, 1)]))
        self.assertEqual(lap_recurrence(Program([ODD]), [0, 0, 7], 1), LapRecurrence([], []))
        self.assertEqual(lap_recurrence(Program([ODD]), [3, -3, 7], 1), LapRecurrence([(0, 1)], [(-3, 1)]))
        self.assertEqual(lap_recurrence(Program([ODD]), [3, -3, 7], 2), LapRecurrence([(1, 1)], [(7, 1)]))
        self.assertEqual(lap_recurrence(Program([ODD]), [3, 0], 0), LapRecurrence([(0, 1), (1, 1)], [(3, 1), (3, 2)]))
        self.assertEqual(lap_recurrence(Program([]), [(1, 3)], 0), LapRecurrence([(1, 1)], [(1, 3)]))

    def test_many_basins(self):
        rng = random.Random(9)
        volumes = random_volumes(rng, 24)
        for rounds in ([RIGHT, LEFT], [ODD, EVEN, ("every", 4, 1)], [("every", 3, 1), RIGHT]):
            told = lap_recurrence(Program(rounds), volumes, 11)
            self.assertTrue(told.shows(Program(rounds), volumes, 11))
            self.assertEqual(self.told_by(told, 101)[100], fraction(lapped(Program(rounds), volumes, 100)[11]))

    def test_more_factors_than_are_needed(self):
        program = Program([ODD, EVEN])
        more = LapRecurrence([(0, 1), (-1, 4), (5, 4)], [(4, 1), (2, 1), (3, 2)])
        self.assertTrue(more.shows(program, [4, 0, 0], 0))
        self.assertFalse(LapRecurrence([(0, 1), (-1, 4), (5, 4)], [(4, 1), (2, 1), (1, 1)]).shows(program, [4, 0, 0], 0))

    def test_spoilt(self):
        program, volumes = Program([ODD, EVEN]), [4, 0, 0]
        right = [(-1, 4), (5, 4)], [(4, 1), (2, 1)]
        self.assertTrue(LapRecurrence(*right).shows(program, volumes, 0))
        for factors, firsts in (([(1, 4), (5, 4)], right[1]), (right[0], [(4, 1), (3, 1)]), (right[0], [(4, 1)]),
                                (right[0][:1], right[1]), ([], []), ([], right[1]), (right[0], []),
                                ([(-2, 8), (5, 4)], right[1]), (right[0], [(8, 2), (2, 1)]), ([(-1, 4), (5, 0)], right[1]),
                                (right[0], [(4, 1), (2, 1), (3, 2)]), ([(0, 1), *right[0]], right[1]),
                                (right[0], [(4, 1), (2, -1)]), (right[0] * 2, right[1] * 2),
                                ([(5, 4), (-1, 4)], right[1])):
            self.assertFalse(LapRecurrence(factors, firsts).shows(program, volumes, 0), (factors, firsts))
        self.assertFalse(LapRecurrence(*right).shows(program, volumes, 1))
        self.assertFalse(LapRecurrence(*right).shows(program, [5, 0, 0], 0))
        self.assertFalse(LapRecurrence(*right).shows(Program([EVEN, ODD]), [4, 0, 0], 1))
        self.assertTrue(LapRecurrence([], []).shows(program, [0, 0, 0], 2))

    def test_what_goes_wrong_late(self):
        # It is right for all of the first numbers but the last one that has to be looked at.
        program, volumes = Program([RIGHT, LEFT]), [1] + [0] * 7
        told = lap_recurrence(program, volumes, 0)
        self.assertGreater(len(told), 4)
        for at in range(len(told)):
            factors = list(told.factors)
            factors[at] = pair(fraction(factors[at]) + Fraction(1, 2 ** 60))
            self.assertFalse(LapRecurrence(factors, told.firsts).shows(program, volumes, 0))


class JudgeEven(unittest.TestCase):
    def rounds_of(self, program, step):
        return [[place for place, told in enumerate(program.rounds)
                 if (rest or step) in round_openings(told, step + 1)] for rest in range(step)]

    def step_of(self, program):
        return min(step for step in range(1, 13) if all(step % told[1] == 0 for told in program.rounds if len(told) == 3))

    def test_at_random(self):
        rng = random.Random(10)
        seen = set()
        for _ in range(250):
            program = Program([rng.choice(ALL_ROUNDS[2:] if rng.random() < 0.9 else ALL_ROUNDS)
                               for _ in range(rng.randint(0, 7))])
            step = self.step_of(program)
            opened = {weir for told in program.rounds for weir in round_openings(told, 60)}
            missing = [weir for weir in range(1, 60) if weir not in opened]
            told = judge_even(program)
            self.assertTrue(told.shows(program))
            self.assertIs(bool(told), not missing)
            if missing:
                self.assertEqual(told, Parted(missing[0]))
                for weir in range(-1, 14):
                    self.assertIs(Parted(weir).shows(program), weir == missing[0])
                self.assertFalse(EvenAlways([0] * step).shows(program))
            else:
                self.assertFalse(any(Parted(weir).shows(program) for weir in range(-1, 14)))
                choices = self.rounds_of(program, step)
                self.assertEqual(len(told.rounds), step)
                for _ in range(5):
                    drawn = [rng.choice(places) for places in choices]
                    self.assertTrue(EvenAlways(drawn).shows(program))
                    at = rng.randrange(step)
                    for other in range(-2, len(program) + 1):
                        drawn[at] = other
                        self.assertIs(EvenAlways(drawn).shows(program), other in choices[at])
            seen.add((step, bool(told)))
        self.assertGreaterEqual(len(seen), 8)

    def test_by_hand(self):
        self.assertEqual(judge_even(Program([ODD, EVEN])), EvenAlways([1, 0]))
        self.assertEqual(judge_even(Program([("every", 3, 1), EVEN])), Parted(3))
        self.assertEqual(judge_even(Program([])), Parted(1))
        self.assertEqual(judge_even(Program([EVEN])), Parted(1))
        self.assertEqual(judge_even(Program([ODD])), Parted(2))
        self.assertEqual(judge_even(Program([RIGHT])).rounds, [0])
        self.assertEqual(judge_even(Program([LEFT, RIGHT, ("every", 4, 0)])).rounds, [0, 0, 0, 0])
        every = [("every", 3, rest) for rest in range(3)]
        self.assertEqual(judge_even(Program(every)).rounds, [0, 1, 2])
        self.assertEqual(judge_even(Program(every[1:])), Parted(3))
        self.assertEqual(judge_even(Program([("every", 4, 1), ODD, ("every", 3, 2), ("every", 3, 0)])), Parted(4))

    def test_what_the_limits_are(self):
        rng = random.Random(11)
        for _ in range(60):
            program = random_program(rng)
            told = judge_even(program)
            for many in range(1, 16):
                even = len(stretches(program, many)) == 1
                self.assertIs(even, bool(told) or many <= told.weir)

    def test_spoilt(self):
        program = Program([ODD, EVEN, RIGHT])
        for rounds, right in (([1, 0], True), ([2, 2], True), ([1, 2], True), ([0, 0], False), ([1, 1], False), ([1], False),
                              ([1, 0, 1], False), ([], False), ([1, 3], False), ([-1, 0], False), ([1, -3], False)):
            self.assertIs(EvenAlways(rounds).shows(program), right, rounds)
        self.assertFalse(Parted(1).shows(program))
        self.assertTrue(Parted(2).shows(Program([ODD])))
        for weir in (1, 3, 4, 0, -2):
            self.assertFalse(Parted(weir).shows(Program([ODD])), weir)


class Attributes(unittest.TestCase):
    def test_lists_are_copied(self):
        given = [0, 1]
        told = EvenAlways(given)
        given.append(2)
        self.assertEqual((told.rounds, EvenAlways((0, 1)).rounds), ([0, 1], [0, 1]))
        factors, firsts = [(1, 1)], [(2, 1)]
        made = LapRecurrence(factors, firsts)
        factors.append(None), firsts.append(None)
        self.assertEqual((made.factors, made.firsts), ([(1, 1)], [(2, 1)]))
        self.assertEqual(LapRecurrence(((1, 1),), ((2, 1),)), made)

    def test_equality(self):
        made = [LapsDone(1), LapsDone(2), LapsLeft(0, 1), LapsLeft(1, 1), LapsLeft(0, 0), EvenAlways([1]), EvenAlways([]), Parted(1),
                Parted(2), LapRecurrence([], []), LapRecurrence([(1, 1)], [(1, 1)]), LapRecurrence([(1, 1)], [(2, 1)])]
        for one in range(len(made)):
            for other in range(len(made)):
                self.assertIs(made[one] == made[other], one == other)
            self.assertNotEqual(made[one], 1)
        self.assertEqual(LapsLeft(3, 4), LapsLeft(3, 4))
        self.assertEqual([bool(told) for told in made], [True] * 2 + [False] * 3 + [True] * 2 + [False] * 2 + [True] * 3)

    def test_changed(self):
        told = judge_laps(Program([ODD]), 4)
        told.laps = 2
        self.assertFalse(told.shows(Program([ODD]), 4))
        parted = judge_even(Program([ODD]))
        parted.weir += 2
        self.assertFalse(parted.shows(Program([ODD])))


class Refused(unittest.TestCase):
    def refuse(self, error, *calls):
        for call in calls:
            with self.assertRaises(error) as caught:
                call()
            if error is BadProgram:
                self.assertIsNone(caught.exception.place)

    def test_programs_first(self):
        for wrong in (None, [ODD], (ODD,), "odd"):
            self.refuse(BadProgram, lambda: lapped(wrong, None, None), lambda: stretches(wrong, None),
                        lambda: lap_limit(wrong, None), lambda: left_behind(wrong, None, None),
                        lambda: moved(wrong, None, None), lambda: judge_laps(wrong, None),
                        lambda: LapsDone(0).shows(wrong, None), lambda: LapsLeft(0, 0).shows(wrong, None),
                        lambda: lap_recurrence(wrong, None, None), lambda: LapRecurrence([], []).shows(wrong, None, None),
                        lambda: judge_even(wrong), lambda: EvenAlways([]).shows(wrong), lambda: Parted(1).shows(wrong))

    def test_volumes(self):
        program = Program([ODD])
        for wrong in (None, [], (), 3, [None], [True], ["1"], [(1, 0)], [1.0], [[1, 2]], [0] * 401, "12"):
            self.refuse(BadStart, lambda: lapped(program, wrong, 1), lambda: lap_limit(program, wrong),
                        lambda: moved(program, wrong, 1), lambda: lap_recurrence(program, wrong, 0),
                        lambda: LapRecurrence([], []).shows(program, wrong, 0))

    def test_numbers_of_basins(self):
        program = Program([ODD])
        for wrong in (0, -1, True, None, "3", 401, 2.0):
            self.refuse(BadStart, lambda: stretches(program, wrong), lambda: left_behind(program, wrong, 1),
                        lambda: judge_laps(program, wrong), lambda: LapsDone(1).shows(program, wrong),
                        lambda: LapsLeft(0, 0).shows(program, wrong))

    def test_basins(self):
        program = Program([ODD])
        for wrong in (-1, 2, True, None, "1", 1.0):
            self.refuse(BadStart, lambda: lap_recurrence(program, [1, 2], wrong),
                        lambda: LapRecurrence([], []).shows(program, [1, 2], wrong))

    def test_numbers_of_laps(self):
        program = Program([ODD])
        for wrong in (-1, 201, True, None, "1", 1.0):
            self.refuse(BadStart, lambda: lapped(program, [1, 2], wrong), lambda: moved(program, [1, 2], wrong),
                        lambda: left_behind(program, 2, wrong))

    def test_nothing_is_changed(self):
        program, volumes = Program([ODD, EVEN]), [1, (2, 4), 0]
        lapped(program, volumes, 3), moved(program, volumes, 3), lap_limit(program, volumes)
        lap_recurrence(program, volumes, 1)
        self.assertEqual((program.rounds, volumes), ((ODD, EVEN), [1, (2, 4), 0]))
