"""Point [10], and the conventions [1] for its evidence."""

import random
import unittest
from fractions import Fraction

from tests import brute
from tests.brute import falling_row, fraction, pair, random_order, random_row
from weirlines.bounds import highest, lowest
from weirlines.errors import BadNumber, BadOrder, BadRow, NotFalling, Unlike
from weirlines.loops import limit
from weirlines.pouring import Over, Poured, Rising, Straight, judge_goal, near_goal, poured
from weirlines.rows import Row, behind
from weirlines.turns import turns
from weirlines.weights import weight

ROW = Row((1, 1, 1), (6, 0, 0))
GOAL = Row((1, 1, 1), (3, 2, 1))
EVEN = Row((1, 1, 1), (2, 2, 2))


def parts_at_random(rng, row, many):
    return [(weir, (rng.randint(0, 4), 4)) for weir in random_order(rng, row, many)]


class Pours(unittest.TestCase):
    def test_against_plain_reckoning(self):
        rng = random.Random(1)
        for _ in range(60):
            row = random_row(rng, rng.randint(1, 5), locked=0.2)
            parts = parts_at_random(rng, row, 6)
            told = poured(row, parts)
            self.assertEqual(list(told.volumes), [pair(volume) for volume in brute.poured(row, parts)])
            self.assertEqual((told.areas, told.locks), (row.areas, row.locks))
            self.assertEqual(poured(row, tuple(parts)), told)

    def test_shares(self):
        row = Row((1, 2), (6, 0))
        self.assertEqual(poured(row, [(1, 0)]), row)
        self.assertEqual(poured(row, [(1, (0, 5))]), row)
        self.assertEqual(poured(row, [(1, 1)]).volumes, ((2, 1), (4, 1)))
        self.assertEqual(poured(row, [(1, (3, 3))]), row.opened(1))
        self.assertEqual(poured(row, [(1, (1, 2))]).volumes, ((4, 1), (2, 1)))
        self.assertEqual(poured(row, []), row)
        self.assertEqual(poured(row, [(1, 0)] * 20000), row)

    def test_no_bound_is_passed(self):
        rng = random.Random(2)
        for _ in range(40):
            row = random_row(rng, rng.randint(2, 6), locked=0.2)
            late = poured(row, parts_at_random(rng, row, 20)).sums()
            for place in range(len(row) + 1):
                self.assertLessEqual(fraction(lowest(row, place).number), fraction(late[place]))
                self.assertGreaterEqual(fraction(highest(row, place).number), fraction(late[place]))

    def test_what_is_no_list(self):
        for parts in (None, 3, "12", {1: 1}, ((n, 1) for n in [1]), [(1, 1)] * 20001):
            with self.assertRaises(BadOrder) as caught:
                poured(ROW, parts)
            self.assertIsNone(caught.exception.place)

    def test_what_is_no_pair(self):
        locked = Row((1, 1, 1), (6, 0, 0), [2])
        for wrong in (1, [1, 1], (1,), (1, 1, 1), (0, 1), (2, 1), (3, 1), (True, 1), ("1", 1), (1, -1), (1, 2), (1, (3, 2)),
                      (1, (-1, 2)), (1, (1, 0)), (1, (1, -1)), (1, True), (1, None), (1, [1, 2]), (1, 0.5), None):
            with self.assertRaises(BadOrder) as caught:
                poured(locked, [(1, 1), (1, 0), wrong, 7])
            self.assertEqual(caught.exception.place, 2, wrong)

    def test_the_row_comes_first(self):
        self.assertRaises(BadRow, poured, None, None)

    def test_nothing_given_is_changed(self):
        parts = [(1, (2, 4))]
        poured(ROW, parts)
        self.assertEqual(parts, [(1, (2, 4))])
        self.assertEqual(ROW.volumes, ((6, 1), (0, 1), (0, 1)))


class Goals(unittest.TestCase):
    def check_reached(self, row, goal):
        told = judge_goal(row, goal)
        self.assertIsInstance(told, Poured)
        self.assertEqual(poured(row, told.parts), goal)
        self.assertEqual([pair(volume) for volume in brute.poured(row, told.parts)], list(goal.volumes))
        self.assertTrue(told.shows(row, goal))
        for weir, share in told.parts:
            self.assertIn(weir, row)
            self.assertEqual(share, pair(fraction(share)))
        return told

    def test_goals_that_openings_bring(self):
        rng = random.Random(3)
        for _ in range(80):
            row = falling_row(rng, rng.randint(1, 6), locked=0.2)
            self.check_reached(row, behind(row, random_order(rng, row, rng.randint(0, 9))))
            self.check_reached(row, poured(row, parts_at_random(rng, row, rng.randint(0, 9))))

    def test_goals_of_long_rows_and_orders(self):
        rng = random.Random(4)
        for most_area in (1, 9, 1000):
            row = falling_row(rng, 24, most_area, 9, 0.1)
            self.check_reached(row, behind(row, random_order(rng, row, 300)))

    def test_goals_of_goals(self):
        rng = random.Random(5)
        for _ in range(20):
            row = falling_row(rng, 5, locked=0.1)
            goal = poured(row, parts_at_random(rng, row, 6))
            further = poured(goal, parts_at_random(rng, goal, 6))
            for early, late in ((row, goal), (goal, further), (row, further)):
                self.check_reached(early, late)
                self.assertEqual(turns(late), turns(early))
                self.assertLessEqual(fraction(weight(late)), fraction(weight(early)))

    def test_the_row_itself(self):
        for row in (ROW, EVEN, GOAL, Row((3,), (5,)), Row((1, 1, 1), (6, 0, 0), [1, 2])):
            self.assertEqual(self.check_reached(row, row).parts, [])

    def test_one_basin(self):
        row = Row((2,), (5,))
        self.assertEqual(judge_goal(row, row), Poured([]))
        self.assertEqual(near_goal(row, row, (1, 9)), [])
        with self.assertRaises(Unlike):
            judge_goal(row, Row((2,), (6,)))

    def test_two_basins_can_be_even(self):
        row = Row((1, 3), (8, 0))
        self.check_reached(row, Row((1, 3), (2, 6)))
        self.check_reached(row, Row((1, 3), ((201, 100), (599, 100))))

    def test_rising(self):
        self.assertEqual(judge_goal(ROW, Row((1, 1, 1), (2, 1, 3))), Rising(2))
        goal = Row((1, 1, 1), (3, 1, 2))
        told = judge_goal(ROW, goal)
        self.assertEqual(told, Rising(2))
        self.assertTrue(told.shows(ROW, goal))
        for weir in (-1, 0, 1, 3, 4):
            self.assertFalse(Rising(weir).shows(ROW, goal), weir)
        self.assertFalse(Rising(1).shows(ROW, EVEN))

    def test_rising_at_a_lock_is_none(self):
        row, goal = Row((1, 1, 1, 1), (4, 4, 4, 0), [2]), Row((1, 1, 1, 1), (5, 3, 4, 0), [2])
        self.assertFalse(Rising(2).shows(row, goal))
        told = judge_goal(row, goal)
        self.assertEqual(told, Over(1))
        self.assertTrue(told.shows(row, goal))

    def test_over(self):
        told = judge_goal(GOAL, ROW)
        self.assertIsInstance(told, Over)
        self.assertTrue(Over(1).shows(GOAL, ROW))
        self.assertTrue(Over(2).shows(GOAL, ROW))
        for place in (-1, -3, 0, 3, 4):
            self.assertFalse(Over(place).shows(GOAL, ROW), place)
        self.assertFalse(Over(1).shows(ROW, GOAL))
        self.assertFalse(Over(1).shows(ROW, ROW))

    def test_straight(self):
        told = judge_goal(ROW, EVEN)
        self.assertEqual(told, Straight(1))
        self.assertTrue(told.shows(ROW, EVEN))
        for weir in (-1, 0, 2, 3):
            self.assertFalse(Straight(weir).shows(ROW, EVEN), weir)
        self.assertFalse(Straight(1).shows(EVEN, EVEN))
        self.assertFalse(Straight(1).shows(ROW, GOAL))

    def test_straight_needs_both_weirs(self):
        row = Row((1, 1, 1, 1), (6, 6, 0, 0))
        # Even at the weirs 2 and 3, but the first basin ahead of the first weir has not less.
        goal = Row((1, 1, 1, 1), (6, 2, 2, 2))
        self.assertEqual(judge_goal(row, goal), Straight(2))
        self.check_reached(Row((1, 1, 1), (3, 1, 1)), Row((1, 1, 1), (2, 2, 1)))
        # Even at two weirs, one of which has not less water ahead: it need not be opened.
        row, goal = Row((1, 1, 2), (4, 4, 2)), Row((1, 1, 2), (4, 2, 4))
        self.check_reached(row, goal)
        row, goal = Row((1, 1, 1, 1), (4, 4, 4, 0)), Row((1, 1, 1, 1), (4, 4, 2, 2))
        self.check_reached(row, goal)
        self.assertFalse(Straight(1).shows(row, goal))

    def test_straight_needs_weirs_that_can_be_opened(self):
        row, goal = Row((1, 1, 1), (6, 2, 0), [1]), Row((1, 1, 1), (6, 1, 1), [1])
        self.check_reached(row, goal)
        row = Row((1, 1, 1, 1), (4, 0, 2, 2), [2])
        with self.assertRaises(NotFalling):
            judge_goal(row, row)
        row, goal = Row((1, 1, 1, 1), (4, 2, 2, 2), [2]), Row((1, 1, 1, 1), (3, 3, 2, 2), [2])
        self.check_reached(row, goal)
        self.assertFalse(Straight(2).shows(row, goal))

    def test_the_limit_of_all_openings(self):
        rng = random.Random(6)
        for _ in range(30):
            row = falling_row(rng, rng.randint(3, 6))
            goal = limit(row, row.weirs())
            told = judge_goal(row, goal)
            self.assertTrue(told.shows(row, goal))
            lacks = [fraction(have) > fraction(want) for have, want in zip(row.sums(), goal.sums())]
            if lacks[1] and lacks[2]:
                self.assertIsInstance(told, Straight)
            self.check_near(row, goal, Fraction(1, 1000))

    def check_near(self, row, goal, width):
        parts = near_goal(row, goal, pair(width))
        late = brute.poured(row, parts)
        for place in range(len(row) + 1):
            self.assertLessEqual(abs(sum(late[:place]) - fraction(goal.sums()[place])), width)
        return parts

    def test_judgements_of_all_small_goals(self):
        # Heights 0 to 4 in three basins of area 1: what is not barred is reached, what is barred shows it.
        volumes = [(one, two, 6 - one - two) for one in range(7) for two in range(7 - one)]
        rows = [Row((1, 1, 1), told) for told in volumes]
        falling = [row for row in rows if list(row.volumes) == sorted(row.volumes, reverse=True)]
        for row in falling:
            for goal in rows:
                told = judge_goal(row, goal)
                self.assertTrue(told.shows(row, goal))
                barred = (goal not in falling or goal[0] > row[0] or goal[2] < row[2]
                          or (goal == EVEN and row[0] > (2, 1) and row[2] < (2, 1)))
                self.assertIs(bool(told), not barred, (row.volumes, goal.volumes))

    def test_near_goals(self):
        rng = random.Random(7)
        for _ in range(40):
            row = falling_row(rng, rng.randint(1, 6), locked=0.2)
            goal = limit(row, random_order(rng, row, 4))
            for width in (Fraction(1, 100000), Fraction(1, 7), Fraction(3), Fraction(1000)):
                self.check_near(row, goal, width)

    def test_wide_widths_need_no_openings(self):
        self.assertEqual(near_goal(ROW, EVEN, 4), [])
        self.assertEqual(len(near_goal(ROW, EVEN, (399, 100))), 1)

    def test_no_near_goals(self):
        for width in ((1, 1000), 1, 1000):
            self.assertIsNone(near_goal(ROW, Row((1, 1, 1), (3, 1, 2)), width))
            self.assertIsNone(near_goal(GOAL, ROW, width))
            self.assertIsNotNone(near_goal(ROW, EVEN, width))

    def test_near_goals_of_long_rows(self):
        wide = Row((2, 5) * 12, (6, 15) * 6 + (0,) * 12)
        for row, width in ((Row((1,) * 24, (24,) + (0,) * 23), (1, 100)), (wide, (1, 10))):
            goal = limit(row, row.weirs())
            late = poured(row, near_goal(row, goal, width)).sums()
            for place in range(25):
                self.assertLessEqual(abs(fraction(late[place]) - fraction(goal.sums()[place])), fraction(width))

    def test_spoilt_parts(self):
        row, goal = Row((1, 1), (4, 0)), Row((1, 1), (3, 1))
        told = judge_goal(row, goal)
        self.assertEqual(told.parts, [(1, (1, 2))])
        self.assertTrue(told.shows(row, goal))
        for parts in ([], [(1, (1, 1))], [(1, (1, 3))], [(1, (1, 2)), (1, (1, 2))], [(2, (1, 2))], [(0, (1, 2))],
                      [(1, (-1, 2))], [(1, (1, 2)), (1, (0, 0))], [(1, (3, 2))], [(1, (1, -2))], [(1, (1, 2)), (1, (5, 4))]):
            self.assertFalse(Poured(parts).shows(row, goal), parts)
        self.assertTrue(Poured(((1, (1, 2)), (1, (0, 1)))).shows(row, goal))

    def test_openings_of_locked_weirs_are_no_evidence(self):
        row, goal = Row((1, 1, 1), (4, 2, 0), [1]), Row((1, 1, 1), (4, 1, 1), [1])
        self.assertTrue(judge_goal(row, goal).shows(row, goal))
        self.assertFalse(Poured([(1, (0, 1)), (2, (1, 1))]).shows(row, goal))

    def test_as_evidence(self):
        self.assertEqual(Poured(((1, (1, 2)),)), Poured([(1, (1, 2))]))
        self.assertNotEqual(Poured([]), Poured([(1, (1, 2))]))
        self.assertEqual([Rising(1), Over(1), Straight(1)], [Rising(1), Over(1), Straight(1)])
        for one, other in ((Rising(1), Over(1)), (Rising(1), Straight(1)), (Over(1), Straight(1)), (Rising(1), Rising(2)),
                           (Over(1), Over(2)), (Straight(1), Straight(2)), (Poured([]), []), (Rising(1), 1)):
            self.assertNotEqual(one, other)
        self.assertEqual([bool(Poured([])), bool(Rising(1)), bool(Over(1)), bool(Straight(1))], [True, False, False, False])
        parts = [(1, (1, 2))]
        told = Poured(parts)
        told.parts.append(3)
        self.assertEqual(parts, [(1, (1, 2))])


class Refused(unittest.TestCase):
    def calls(self, row, goal):
        return [lambda: judge_goal(row, goal), lambda: near_goal(row, goal, 0), lambda: Poured([(9, (1, 1))]).shows(row, goal),
                lambda: Rising(9).shows(row, goal), lambda: Over(9).shows(row, goal), lambda: Straight(9).shows(row, goal)]

    def check(self, row, goal, error, **told):
        for call in self.calls(row, goal):
            with self.assertRaises(error) as caught:
                call()
            for name, value in told.items():
                self.assertEqual(getattr(caught.exception, name), value)

    def test_no_rows(self):
        rising = Row((1, 1), (0, 1))
        self.check(None, ROW, BadRow)
        self.check(ROW, ((1, 1), (2, 2)), BadRow)
        self.check(rising, None, BadRow)

    def test_rows_that_rise(self):
        self.check(Row((1, 1, 1), (1, 0, 1)), EVEN, NotFalling, number=2)
        self.check(Row((1, 1, 1), (1, 2, 3), [1]), EVEN, NotFalling, number=1)
        self.check(Row((2, 1), (3, 2)), Row((2, 1), (3, 2)), NotFalling, number=1)
        self.check(Row((1, 1), ((1, 3), (1, 2))), Row((1,), (1,)), NotFalling, number=1)

    def test_rows_that_are_unlike(self):
        self.check(ROW, Row((1, 1), (6, 0)), Unlike, what="areas")
        self.check(ROW, Row((1, 2, 1), (6, 0, 1), [1]), Unlike, what="areas")
        self.check(ROW, Row((1, 1, 1), (6, 0, 1), [1]), Unlike, what="locks")
        self.check(ROW, Row((1, 1, 1), (6, 0, (1, 9))), Unlike, what="water")
        locked = Row((1, 1, 1, 1), (3, 1, 1, 0), [2])
        self.check(locked, Row((1, 1, 1, 1), (2, 1, 1, 1), [2]), Unlike, what="water")
        self.assertTrue(judge_goal(locked, Row((1, 1, 1, 1), (2, 2, 1, 0), [2])))

    def test_widths_come_last(self):
        for width in (0, -1, (0, 1), (1, 0), None, True, [1, 2], 0.5):
            self.assertRaises(BadNumber, near_goal, ROW, EVEN, width)
            self.assertRaises(BadNumber, near_goal, GOAL, ROW, width)
