"""Point [8], and the conventions [1] for its evidence."""

import random
import unittest

from tests import brute
from tests.brute import after, fraction, heights, random_order, random_row
from weirlines.errors import BadOrder, BadRow
from weirlines.rows import Row
from weirlines.turns import Sinking, flats, peaks, signs, sinking, turns, turns_left


class Turning(unittest.TestCase):
    def test_by_hand(self):
        row = Row((1, 2, 1, 1, 1), (1, 2, 3, 3, 2), [1])
        self.assertEqual(signs(row), [1, -1])
        self.assertEqual(turns(row), 1)
        self.assertEqual(flats(row), [(0, 2), (2, 4), (4, 5)])
        self.assertEqual(peaks(row), [(2, 4)])
        self.assertEqual(turns_left(row), {2: 1, 3: 1, 4: 1})

    def test_heights_tell_not_volumes(self):
        row = Row((1, 4), (2, 4))
        self.assertEqual([signs(row), peaks(row)], [[-1], [(0, 1)]])

    def test_even_rows(self):
        row = Row((1, 2, 3), (2, 4, 6))
        self.assertEqual([signs(row), turns(row), flats(row), peaks(row)], [[], 0, [(0, 3)], [(0, 3)]])
        self.assertEqual(turns_left(row), {1: 0, 2: 0})

    def test_even_ones_are_left_out(self):
        row = Row((1,) * 5, (1, 2, 2, 2, 1))
        self.assertEqual([signs(row), turns(row), peaks(row)], [[1, -1], 1, [(1, 4)]])
        row = Row((1,) * 5, (1, 2, 2, 3, 3))
        self.assertEqual([signs(row), turns(row), peaks(row)], [[1, 1], 0, [(3, 5)]])

    def test_one_basin(self):
        row = Row((3,), (1,))
        self.assertEqual([signs(row), turns(row), flats(row), peaks(row), turns_left(row), sinking(row, []).numbers],
                         [[], 0, [(0, 1)], [(0, 1)], {}, [0]])

    def test_ends(self):
        self.assertEqual(peaks(Row((1, 1, 1), (2, 1, 3))), [(0, 1), (2, 3)])
        self.assertEqual(peaks(Row((1, 1, 1), (1, 3, 2))), [(1, 2)])
        self.assertEqual(peaks(Row((1, 1, 1), (3, 3, 2))), [(0, 2)])

    def test_locked_weirs_have_signs_too(self):
        row = Row((1, 1, 1), (0, 2, 1), [1, 2])
        self.assertEqual([signs(row), turns(row), turns_left(row)], [[1, -1], 1, {}])

    def test_at_random(self):
        rng = random.Random(1)
        for _ in range(200):
            row = random_row(rng, rng.randint(1, 8), most_area=3, most_volume=3, locked=0.2)
            levels = [fraction(height) for height in row.heights()]
            self.assertEqual(turns(row), brute.turns(row, after(row, [])))
            self.assertEqual(signs(row), [1 if late > early else -1 for early, late in zip(levels, levels[1:])
                                          if early != late])
            self.assertEqual([at for first, end in flats(row) for at in range(first, end)], list(range(len(row))))
            for first, end in flats(row):
                self.assertEqual(len(set(levels[first:end])), 1)
                self.assertTrue(end == len(row) or levels[end] != levels[first])
            self.assertEqual(peaks(row), [(first, end) for first, end in flats(row)
                                          if all(levels[at] < levels[first] for at in (first - 1, end)
                                                 if 0 <= at < len(row))])
            self.assertEqual(list(turns_left(row).items()),
                             [(weir, brute.turns(row, after(row, [weir]))) for weir in row.weirs()])

    def test_sinking_at_random(self):
        rng = random.Random(2)
        for _ in range(100):
            row = random_row(rng, rng.randint(1, 8), most_area=3, most_volume=3, locked=0.2)
            order = random_order(rng, row, rng.randint(0, 15))
            told = sinking(row, order)
            self.assertEqual(told.numbers, [brute.turns(row, after(row, order[:at])) for at in range(len(order) + 1)])
            self.assertEqual(told.numbers, sorted(told.numbers, reverse=True))
            self.assertTrue(told.shows(row, order))

    def test_long_orders(self):
        row = Row((1,) * 8, (1, 0) * 4)
        told = sinking(row, [1, 3, 5, 7, 2, 4, 6] * 2500)
        self.assertEqual(len(told.numbers), 17501)
        self.assertEqual(told.numbers[0], 6)

    def test_new_lists_and_dicts(self):
        row = Row((1, 1, 1), (0, 2, 1))
        for call in (signs, flats, peaks):
            call(row).append(None)
            self.assertNotIn(None, call(row))
        turns_left(row)[9] = 9
        self.assertNotIn(9, turns_left(row))


class Evidence(unittest.TestCase):
    def test_spoilt(self):
        row = Row((1, 1, 1, 1, 1), (2, 5, 1, 1, 3))
        self.assertTrue(Sinking([2, 1, 1, 0]).shows(row, [1, 4, 2]))
        for numbers in ([], [2, 1, 1], [2, 1, 1, 0, 0], [2, 2, 1, 0], [2, 1, 1, -1], [1, 1, 1, 0], [0, 1, 1, 2]):
            self.assertFalse(Sinking(numbers).shows(row, [1, 4, 2]), numbers)
        self.assertFalse(Sinking([2, 1, 1, 0]).shows(row, [1, 2, 3]))

    def test_attributes(self):
        numbers = [0]
        told = Sinking(numbers)
        numbers.append(1)
        self.assertEqual(told.numbers, [0])
        self.assertEqual(Sinking((1, 0)).numbers, [1, 0])
        told.numbers = [1]
        self.assertFalse(told.shows(Row((1,), (0,)), []))

    def test_equality_and_bool(self):
        self.assertEqual(Sinking([1, 0]), Sinking((1, 0)))
        self.assertNotEqual(Sinking([1, 0]), Sinking([1]))
        self.assertNotEqual(Sinking([1, 0]), [1, 0])
        self.assertIs(bool(Sinking([0])), True)


class Refused(unittest.TestCase):
    def test_no_row(self):
        for call in (turns, signs, flats, peaks, turns_left):
            self.assertRaises(BadRow, call, ((1, 1), (0, 0)))
        for call in (sinking, Sinking([0]).shows):
            self.assertRaises(BadRow, call, None, None)

    def test_orders(self):
        row = Row((1, 1, 1), (1, 0, 0), [2])
        for order, place in (([1, 2], 1), ([3], 0), ([True], 0), (None, None), ("1", None), ([1] * 20001, None)):
            for call in (sinking, Sinking([0]).shows):
                with self.assertRaises(BadOrder) as caught:
                    call(row, order)
                self.assertEqual(caught.exception.place, place)
