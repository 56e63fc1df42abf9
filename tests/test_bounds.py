"""Point [4], and the conventions [1] for its evidence."""

import random
import unittest
from fractions import Fraction

from tests.brute import after, all_orders, chord_bound, fraction, pair, random_order, random_row
from weirlines.bounds import High, Low, highest, lowest, nearing, reaching
from weirlines.errors import BadNumber, BadRow
from weirlines.rows import Row, behind


def rows_at_random(seed, many):
    rng = random.Random(seed)
    return [random_row(rng, rng.randint(1, 6), locked=0.2) for _ in range(many)]


class Bounds(unittest.TestCase):
    def test_against_all_straight_lines(self):
        for row in rows_at_random(1, 150):
            for place in range(len(row) + 1):
                high, low = highest(row, place), lowest(row, place)
                self.assertEqual(high.number, pair(chord_bound(row, place, 1)))
                self.assertEqual(low.number, pair(chord_bound(row, place, -1)))
                self.assertTrue(high.shows(row, place))
                self.assertTrue(low.shows(row, place))

    def test_points_are_between_the_same_locks(self):
        for row in rows_at_random(2, 100):
            for place in range(len(row) + 1):
                for told in (highest(row, place), lowest(row, place)):
                    self.assertLess(told.one, told.other)
                    self.assertTrue(told.one <= place <= told.other)
                    self.assertFalse([lock for lock in row.locks if told.one < lock < told.other])

    def test_no_order_passes_them(self):
        rng = random.Random(4)
        for row in rows_at_random(3, 60):
            late = after(row, random_order(rng, row, 15))
            for place in range(len(row) + 1):
                water = sum(late[:place])
                self.assertLessEqual(fraction(lowest(row, place).number), water)
                self.assertLessEqual(water, fraction(highest(row, place).number))

    def test_ends_and_locks_stay(self):
        row = Row((1, 2, 1), (1, 0, 5), [1])
        for place, number in ((0, (0, 1)), (1, (1, 1)), (3, (6, 1))):
            self.assertEqual(highest(row, place).number, number)
            self.assertEqual(lowest(row, place).number, number)
        self.assertEqual(highest(row, 2).number, (13, 3))

    def test_row_of_one_basin(self):
        row = Row((7,), ((1, 2),))
        self.assertEqual(highest(row, 0), High((0, 1), 0, 1))
        self.assertEqual(lowest(row, 1), Low((1, 2), 0, 1))
        self.assertTrue(highest(row, 1).shows(row, 1))
        self.assertEqual(reaching(row, 1), [])
        self.assertEqual(nearing(row, 0, 1), [])

    def test_nothing_given_is_changed(self):
        row = Row((1, 1, 1), (0, 0, 3), [1])
        highest(row, 2)
        nearing(row, 2, (1, 9), low=True)
        self.assertEqual(row, Row((1, 1, 1), (0, 0, 3), [1]))


class Evidence(unittest.TestCase):
    def test_spoilt(self):
        row = Row((1, 1, 1, 1, 1), (0, 3, 0, 0, 4), [4])
        self.assertTrue(High((3, 2), 0, 2).shows(row, 1))
        for number, one, other in (((1, 1), 0, 2), ((3, 2), 0, 1), ((3, 2), 2, 0), ((3, 2), 0, 5), ((3, 2), -1, 2),
                                   ((3, 2), 0, 9), ((3, 4), 0, 4), ((0, 1), 1, 2), ((3, 2), 1, 1), ((6, 4), 0, 2),
                                   ((0, 1), 1, 1), ((3, 2), -9, 2), ((0, 0), 0, 2)):
            self.assertFalse(High(number, one, other).shows(row, 1), (number, one, other))

    def test_spoilt_low(self):
        row = Row((1, 1, 1), (3, 0, 3))
        self.assertTrue(Low((3, 2), 0, 2).shows(row, 1))
        self.assertTrue(Low((3, 1), 0, 2).shows(row, 2))
        for number, one, other in (((3, 1), 0, 1), ((2, 1), 0, 3), ((1, 1), 0, 2), ((3, 2), 2, 0), ((3, 2), 0, 4)):
            self.assertFalse(Low(number, one, other).shows(row, 1), (number, one, other))
        self.assertFalse(High((3, 2), 0, 2).shows(row, 1))
        self.assertFalse(Low((3, 1), 0, 2).shows(row, 3))

    def test_a_line_with_a_point_above(self):
        row = Row((1, 1, 1, 1), (0, 4, 0, 0))
        # The line through these gives the number at the place 2, but the point 2 itself is no corner of it.
        self.assertFalse(High((2, 1), 0, 4).shows(row, 2))
        self.assertTrue(High((4, 1), 2, 4).shows(row, 2))
        self.assertFalse(High((4, 1), 1, 2).shows(row, 2))
        self.assertFalse(High((1, 1), 0, 2).shows(Row((1, 1), (1, 0)), 2))
        self.assertTrue(High((1, 1), 1, 2).shows(Row((1, 1), (1, 0)), 2))

    def test_either_side_of_a_lock(self):
        row = Row((1, 1, 1, 1), (0, 3, 0, 3), [2])
        self.assertTrue(High((3, 1), 0, 2).shows(row, 2))
        self.assertTrue(High((3, 1), 2, 4).shows(row, 2))
        self.assertFalse(High((3, 1), 0, 4).shows(row, 2))
        self.assertFalse(High((3, 1), 1, 3).shows(row, 2))

    def test_at_random(self):
        rng = random.Random(8)
        for row in rows_at_random(9, 60):
            place = rng.randint(0, len(row))
            one, other = rng.randint(-1, len(row) + 1), rng.randint(-1, len(row) + 1)
            number = highest(row, place).number
            self.assertEqual(High(number, one, other).shows(row, place), self.is_described(row, place, one, other, number))
            self.assertFalse(High((number[0] + number[1], number[1]), one, other).shows(row, place))

    def is_described(self, row, place, one, other, number):
        if not 0 <= one <= place <= other <= len(row) or one == other:
            return False
        if [lock for lock in row.locks if one < lock < other]:
            return False
        sums, far = [fraction(told) for told in row.sums()], row.reaches()
        slope = (sums[other] - sums[one]) / (far[other] - far[one])
        stays = [0, *row.locks, len(row)]
        between = range(max(at for at in stays if at <= one), min(at for at in stays if at >= other) + 1)
        line = [sums[one] + slope * (far[at] - far[one]) for at in range(len(row) + 1)]
        return all(sums[at] <= line[at] for at in between) and line[place] == fraction(number)

    def test_changed_attributes(self):
        row = Row((1, 1, 1), (0, 0, 3))
        told = highest(row, 1)
        self.assertTrue(told.shows(row, 1))
        told.number = (2, 1)
        self.assertFalse(told.shows(row, 1))
        told.number = (1, 1)
        self.assertTrue(told.shows(row, 1))
        told.other = 2
        self.assertFalse(told.shows(row, 1))

    def test_equality_and_bool(self):
        self.assertEqual(High((1, 1), 0, 2), High((1, 1), 0, 2))
        for other in (High((2, 1), 0, 2), High((1, 1), 1, 2), High((1, 1), 0, 3), Low((1, 1), 0, 2), None):
            self.assertNotEqual(High((1, 1), 0, 2), other)
            self.assertNotEqual(other, High((1, 1), 0, 2))
        for other in (Low((2, 1), 0, 2), Low((1, 1), 1, 2), Low((1, 1), 0, 3), None):
            self.assertNotEqual(Low((1, 1), 0, 2), other)
        self.assertEqual(Low((1, 1), 0, 2), Low((1, 1), 0, 2))
        self.assertIs(bool(High((0, 1), 0, 1)), True)
        self.assertIs(bool(Low((0, 1), 0, 1)), True)


class Reaching(unittest.TestCase):
    def test_against_all_orders(self):
        rng = random.Random(5)
        for _ in range(80):
            row = random_row(rng, rng.randint(1, 4), most_area=2, most_volume=3, locked=0.2)
            orders = [order for many in range(4) for order in all_orders(row, many)]
            for place in range(len(row) + 1):
                for side in (1, -1):
                    bound = chord_bound(row, place, side)
                    wanted = [order for order in orders if sum(after(row, order)[:place]) == bound]
                    found = reaching(row, place, low=side == -1)
                    self.assertEqual(found is None, not wanted)
                    if wanted:
                        self.assertEqual(len(found), len(wanted[0]))
                        self.assertEqual(sum(after(row, found)[:place]), bound)

    def test_three_answers(self):
        row = Row((1, 1, 1, 1), (0, 0, 2, 0))
        self.assertEqual(reaching(row, 3), [])
        self.assertIsNone(reaching(row, 1))
        self.assertEqual(reaching(Row((1, 1, 1), (0, 2, 0)), 1), [1])
        self.assertEqual(reaching(Row((1, 1, 1), (2, 0, 0)), 1, low=True), None)
        self.assertEqual(reaching(Row((1, 1, 1), (2, 0, 2)), 2, low=True), [])
        self.assertEqual(reaching(Row((1, 1, 1), (2, 0, 2)), 1, low=True), [1])

    def test_lists_are_new(self):
        row = Row((1, 1), (0, 2))
        reaching(row, 1).append(5)
        self.assertEqual(reaching(row, 1), [1])


class Nearing(unittest.TestCase):
    def check_near(self, row, place, width, low):
        order = nearing(row, place, pair(width), low=low)
        self.assertIsInstance(order, list)
        self.assertLessEqual(len(order), 20000)
        water = fraction(behind(row, order).sums()[place])
        if low:
            self.assertLessEqual(water, fraction(lowest(row, place).number) + width)
        else:
            self.assertGreaterEqual(water, fraction(highest(row, place).number) - width)

    def test_at_random(self):
        rng = random.Random(6)
        for row in rows_at_random(7, 60):
            for place in range(len(row) + 1):
                width = Fraction(1, rng.choice((1, 10, 1000)))
                self.check_near(row, place, width, False)
                self.check_near(row, place, width, True)

    def test_long_rows_and_large_areas(self):
        row = Row((1,) * 24, (0,) * 23 + (1,))
        self.check_near(row, 12, Fraction(1, 1000), False)
        self.check_near(Row((1,) * 24, (1,) + (0,) * 23), 1, Fraction(1, 1000), True)
        self.check_near(Row((1000, 1, 7, 300, 2), (0, 3, 0, (1, 3), 8)), 3, Fraction(1, 100), False)

    def test_widths(self):
        row = Row((1, 1, 1), (0, 0, 3))
        self.assertEqual(nearing(row, 1, 1), [])
        self.assertEqual(nearing(row, 1, (2, 2)), [])
        self.assertEqual(nearing(row, 1, 7), [])
        self.assertEqual(len(nearing(row, 1, (99, 100))), 2)


class Refused(unittest.TestCase):
    def test_no_row(self):
        for call in (highest, lowest, reaching, High((0, 1), 0, 1).shows, Low((0, 1), 0, 1).shows):
            self.assertRaises(BadRow, call, None, -1)
        self.assertRaises(BadRow, nearing, (1, 1), -1, 0)

    def test_places(self):
        row = Row((1, 1), (1, 2))
        for place in (-1, 3, True, None, "1", (1, 1), 1.0):
            for call in (highest, lowest, reaching, High((0, 1), 0, 1).shows, Low((0, 1), 0, 1).shows):
                self.assertRaises(BadNumber, call, row, place)
            self.assertRaises(BadNumber, nearing, row, place, 1)
            self.assertRaises(BadNumber, reaching, row, place, low=True)

    def test_widths(self):
        row = Row((1, 1), (1, 2))
        for width in (0, -1, (0, 1), (-1, 2), (1, 0), (1, -2), True, None, [1, 2], (1, 2, 3), 0.5, "1"):
            self.assertRaises(BadNumber, nearing, row, 1, width)
