"""Point [9], and the conventions [1] for its evidence."""

import random
import unittest
from fractions import Fraction

from tests.brute import after, fraction, heights, longest_by_trying, pair, random_order, random_row
from tests.brute import weight as plain_weight
from weirlines.errors import BadNumber, BadOrder, BadRow, BadWeir
from weirlines.rows import Row, behind
from weirlines.weights import Longest, bar, difference, even_weight, falls, longest, weight

EVEN = Row((1, 2, 3, 1), (2, 4, 6, 2))
LOCKED = Row((1, 2, 1), (4, 0, (1, 2)), [1, 2])
LONE = Row((4,), (6,))
STEPS = Row((1, 1, 1), (0, 0, 4))


def rows_at_random(seed, many):
    rng = random.Random(seed)
    return [random_row(rng, rng.randint(1, 6), locked=0.2) for _ in range(many)]


class Weights(unittest.TestCase):
    def test_weight(self):
        for row in rows_at_random(1, 60):
            self.assertEqual(weight(row), pair(plain_weight(row, after(row, []))))
        self.assertEqual(weight(LONE), (9, 1))
        self.assertEqual(weight(LOCKED), (65, 4))
        self.assertEqual(weight(Row((1, 1), (0, 0))), (0, 1))

    def test_even_weight(self):
        for row in rows_at_random(2, 60):
            ends = [0, *row.locks, len(row)]
            told = sum(Fraction(sum(map(fraction, row.volumes[first:end]))) ** 2 / sum(row.areas[first:end])
                       for first, end in zip(ends, ends[1:]))
            self.assertEqual(even_weight(row), pair(told))
            self.assertLessEqual(told, plain_weight(row, after(row, [])))
        self.assertEqual(even_weight(LONE), weight(LONE))
        self.assertEqual(even_weight(LOCKED), weight(LOCKED))
        self.assertEqual(even_weight(EVEN), weight(EVEN))
        self.assertEqual(even_weight(Row((1, 1, 2), (3, 0, 0), [2])), (9, 2))

    def test_no_order_goes_below_the_even_weight(self):
        rng = random.Random(3)
        for row in rows_at_random(4, 40):
            late = after(row, random_order(rng, row, 30))
            self.assertGreaterEqual(plain_weight(row, late), fraction(even_weight(row)))

    def test_falls(self):
        rng = random.Random(5)
        for row in rows_at_random(6, 60):
            order = random_order(rng, row, 8)
            weights = [plain_weight(row, after(row, order[:many])) for many in range(len(order) + 1)]
            told = [pair(early - late) for early, late in zip(weights, weights[1:])]
            self.assertEqual(falls(row, order), told)
            self.assertEqual(falls(row, tuple(order)), told)
        self.assertEqual(falls(EVEN, [1, 2, 3]), [(0, 1)] * 3)
        self.assertEqual(falls(LONE, []), [])

    def test_falls_of_a_long_order(self):
        row = Row((3, 5, 7, 2), (9, 0, 4, (1, 3)))
        order = [1, 2, 3] * 200
        told = falls(row, order)
        self.assertEqual(sum(map(fraction, told)), fraction(weight(row)) - fraction(weight(behind(row, order))))

    def test_difference(self):
        for row in rows_at_random(7, 60):
            levels = heights(row, after(row, []))
            for weir in row.weirs():
                self.assertEqual(difference(row, weir), pair(abs(levels[weir - 1] - levels[weir])))
        self.assertEqual(difference(Row((2, 1), (1, 3)), 1), (5, 2))
        self.assertEqual(difference(EVEN, 2), (0, 1))


class Bars(unittest.TestCase):
    def test_against_its_words(self):
        for row in rows_at_random(8, 80):
            for width in (Fraction(1, 3), Fraction(1), Fraction(7, 2)):
                least = min([Fraction(row.areas[weir - 1] * row.areas[weir], row.areas[weir - 1] + row.areas[weir])
                             for weir in row.weirs()], default=None)
                above = fraction(weight(row)) - fraction(even_weight(row))
                told = 0 if least is None else above // (width * width * least)
                self.assertEqual(bar(row, pair(width)), told)
                self.assertIs(int, type(bar(row, pair(width))))

    def test_no_order_finds_the_width_more_often(self):
        for row in rows_at_random(9, 30):
            for width in ((1, 1), (2, 1)):
                self.assertLessEqual(len(longest(row, width).order), bar(row, width))

    def test_just_a_whole_number(self):
        # The weight is 8 above the even one, and the opening takes it all.
        self.assertEqual(bar(Row((1, 1), (4, 0)), 4), 1)
        self.assertEqual(bar(Row((1, 1), (4, 0)), 2), 4)
        self.assertEqual(bar(Row((1, 1), (4, 0)), (401, 100)), 0)

    def test_without_weirs_that_can_be_opened(self):
        self.assertEqual(bar(LONE, (1, 9)), 0)
        self.assertEqual(bar(LOCKED, (1, 9)), 0)
        self.assertEqual(bar(EVEN, (1, 9)), 0)

    def test_locked_weirs_have_no_least_product(self):
        self.assertEqual(bar(Row((1, 1, 9, 9), (0, 0, 9, 0), [1, 2]), 1), bar(Row((9, 9), (9, 0)), 1))


class LongestOrders(unittest.TestCase):
    def test_against_all_orders(self):
        for row in rows_at_random(10, 40):
            for width in (Fraction(1, 2), Fraction(1), Fraction(5, 2)):
                if len(row) < 5 or width > 1:
                    self.check(row, width)

    def check(self, row, width):
        told = longest(row, pair(width))
        self.assertEqual(len(told.order), longest_by_trying(row, width))
        for at, weir in enumerate(told.order):
            levels = heights(row, after(row, told.order[:at]))
            self.assertGreaterEqual(abs(levels[weir - 1] - levels[weir]), width)
        self.assertEqual(told.table[row.volumes], len(told.order))
        self.assertTrue(told.shows(row, pair(width)))

    def test_no_openings(self):
        for row in (LONE, LOCKED, EVEN):
            self.assertEqual(longest(row, (1, 100)), Longest([], {row.volumes: 0}))
            self.assertTrue(Longest((), {row.volumes: 0}).shows(row, (1, 100)))

    def test_a_difference_of_just_the_width_counts(self):
        self.assertEqual(longest(Row((1, 1), (3, 0)), 3).order, [1])
        self.assertEqual(longest(Row((1, 1), (3, 0)), (301, 100)).order, [])

    def test_a_few_hundred_openings_behind_one_another(self):
        row = Row((1,) * 3, (10 ** 60, 0, 0))
        told = longest(row, 1)
        self.assertGreater(len(told.order), 150)
        self.assertTrue(told.shows(row, 1))

    def test_spoilt_orders(self):
        told = longest(STEPS, 1)
        self.assertEqual(told.order, [2, 1, 2])
        for order in ([], [2, 1], [2, 2, 1], [1, 2, 1], [2, 1, 2, 1]):
            self.assertFalse(Longest(order, told.table).shows(STEPS, 1), order)
        # Two openings, but the first one finds less than the width.
        row = Row((1, 1, 1), (0, 1, 4))
        self.assertEqual(len(longest(row, 3).order), 1)
        table = dict(longest(row, 3).table)
        self.assertFalse(Longest([1], table).shows(row, 3))
        self.assertTrue(Longest([2], table).shows(row, 3))

    def test_spoilt_tables(self):
        told = longest(STEPS, 1)
        behind_two = STEPS.opened(2).volumes
        for change in ({STEPS.volumes: 2}, {STEPS.volumes: 4}, {behind_two: 3}, {behind_two: 1}):
            self.assertFalse(Longest(told.order, {**told.table, **change}).shows(STEPS, 1), change)
        for missing in (STEPS.volumes, behind_two):
            table = {volumes: number for volumes, number in told.table.items() if volumes != missing}
            self.assertFalse(Longest(told.order, table).shows(STEPS, 1))
        last = behind(STEPS, told.order).volumes
        self.assertEqual(told.table[last], 0)
        self.assertFalse(Longest(told.order, {**told.table, last: -1}).shows(STEPS, 1))
        self.assertFalse(Longest([], {}).shows(STEPS, 1))

    def test_tables_may_have_more(self):
        told = longest(STEPS, 1)
        even = ((2, 1), (2, 1), (2, 1))
        self.assertTrue(Longest(told.order, {**told.table, even: 7}).shows(STEPS, 1))
        self.assertFalse(Longest(told.order, {**told.table, even: -7}).shows(STEPS, 1))
        self.assertFalse(Longest(told.order, {**told.table, ((5, 1), (0, 1), (0, 1)): 7}).shows(STEPS, 1))
        for odd in ((), ((2, 1), (2, 1)), ((2, 1), (2, 1), (2, 0)), ((2, 1), (2, 1), (2, -1)), ((-1, 1), (-1, 1), (-1, 1))):
            self.assertFalse(Longest(told.order, {**told.table, odd: 7}).shows(STEPS, 1), odd)

    def test_a_larger_number_needs_larger_ones_ahead(self):
        row = Row((1, 1), (4, 0))
        even = ((2, 1), (2, 1))
        self.assertTrue(Longest([1], {row.volumes: 1, even: 0}).shows(row, 1))
        self.assertFalse(Longest([1], {row.volumes: 1, even: 1}).shows(row, 1))
        self.assertFalse(Longest([1], {row.volumes: 1}).shows(row, 1))

    def test_as_evidence(self):
        order, table = [2, 1, 2], longest(STEPS, 1).table
        told = Longest(order, table)
        self.assertEqual(told, longest(STEPS, 1))
        self.assertNotEqual(told, Longest([1], table))
        self.assertNotEqual(told, Longest(order, {}))
        self.assertNotEqual(told, order)
        self.assertIs(bool(Longest([], {})), True)
        told.order.append(1)
        told.table.clear()
        self.assertEqual(order, [2, 1, 2])
        self.assertTrue(table)


class Refused(unittest.TestCase):
    def test_no_row(self):
        for call in (lambda: weight(3), lambda: even_weight((1, 2)), lambda: falls(None, 0), lambda: difference([], None),
                     lambda: bar("row", 0), lambda: longest(None, 0), lambda: Longest([9], {}).shows(None, 0)):
            self.assertRaises(BadRow, call)

    def test_orders(self):
        for order, place in (([2, 3], 1), ([True], 0), ("12", None), (None, None), ([1] * 20001, None)):
            with self.assertRaises(BadOrder) as caught:
                falls(STEPS, order)
            self.assertEqual(caught.exception.place, place)
        with self.assertRaises(BadOrder) as caught:
            falls(LOCKED, [1])
        self.assertEqual(caught.exception.place, 0)

    def test_weirs(self):
        for row, weir, number in ((STEPS, 0, 0), (STEPS, 3, 3), (LOCKED, 1, 1), (STEPS, True, None), (STEPS, "1", None),
                                  (STEPS, (1, 1), None)):
            with self.assertRaises(BadWeir) as caught:
                difference(row, weir)
            self.assertEqual(caught.exception.number, number)

    def test_widths(self):
        for width in (0, -1, (0, 3), (1, 0), (1, -1), [1, 2], 1.0, None, True, "1"):
            self.assertRaises(BadNumber, bar, STEPS, width)
            self.assertRaises(BadNumber, longest, STEPS, width)
            self.assertRaises(BadNumber, longest(STEPS, 1).shows, STEPS, width)

    def test_openings_of_evidence(self):
        told = longest(STEPS, 1)
        told.order[1] = 3
        with self.assertRaises(BadOrder) as caught:
            told.shows(STEPS, 1)
        self.assertEqual(caught.exception.place, 1)
        self.assertRaises(BadOrder, told.shows, STEPS, 0)
