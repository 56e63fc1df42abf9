"""Point [5], and the conventions [1] for its evidence."""

import random
import unittest

from tests.brute import after, all_orders, fraction, pair, random_row
from weirlines.bounds import highest
from weirlines.errors import BadNumber, BadOrder, BadRow
from weirlines.making import Best, best, fewest
from weirlines.rows import Row, behind


def amounts_by_length(row, place, many):
    """The greatest amount behind all orders of 0, 1, .. openings."""
    return [max([sum(after(row, order)[:place]) for order in all_orders(row, length)], default=0)
            for length in range(many + 1)]


class BestOrders(unittest.TestCase):
    def check_against_all(self, row, place, many):
        amounts = amounts_by_length(row, place, many)
        most = max(amounts)
        told = best(row, place, many)
        self.assertEqual(told.number, pair(most))
        self.assertEqual(len(told.order), amounts.index(most))
        self.assertEqual(sum(after(row, told.order)[:place]), most)
        self.assertTrue(told.shows(row, place, many))
        for number in set(amounts):
            found = fewest(row, place, pair(number), many)
            self.assertEqual(len(found), min(at for at in range(many + 1) if amounts[at] >= number))
            self.assertGreaterEqual(sum(after(row, found)[:place]), number)
        self.assertIsNone(fewest(row, place, pair(most + 1), many))

    def test_against_all_orders(self):
        rng = random.Random(10)
        for _ in range(60):
            row = random_row(rng, rng.randint(1, 4), most_area=3, locked=0.15)
            self.check_against_all(row, rng.randint(0, len(row)), rng.randint(0, 4))

    def test_against_all_longer_orders(self):
        rng = random.Random(11)
        for _ in range(4):
            self.check_against_all(random_row(rng, 4, most_area=3), rng.randint(1, 3), 6)
        self.check_against_all(Row((1, 2, 1), (0, 1, 5)), 1, 8)

    def test_no_openings(self):
        row = Row((1, 1, 1), (0, 0, 4))
        self.assertEqual(best(row, 2, 0), Best((0, 1), []))
        self.assertTrue(best(row, 2, 0).shows(row, 2, 0))
        self.assertEqual(fewest(row, 2, 0, 0), [])
        self.assertIsNone(fewest(row, 2, 1, 0))

    def test_eight_openings_in_a_long_row(self):
        row = Row((1,) * 24, tuple(range(24)))
        told = best(row, 12, 8)
        self.assertEqual(sum(after(row, told.order)[:12]), fraction(told.number))
        self.assertLess(fraction(told.number), fraction(highest(row, 12).number))
        self.assertGreater(fraction(told.number), fraction(best(row, 12, 7).number))
        self.assertEqual(len(told.order), 8)
        self.assertTrue(told.shows(row, 12, 8))

    def test_fewest(self):
        row = Row((1, 1, 1), (0, 0, 4))
        self.assertEqual(fewest(row, 1, 1, 2), [2, 1])
        self.assertIsNone(fewest(row, 1, 1, 1))
        self.assertEqual(fewest(row, 1, (2, 2), 8), [2, 1])
        self.assertEqual(fewest(row, 1, -3, 8), [])
        self.assertEqual(fewest(row, 1, (-1, 2), 8), [])
        self.assertIsNone(fewest(row, 1, (4, 3), 8))

    def test_places_that_stay(self):
        row = Row((1, 1, 1), (0, 2, 4), [1])
        for place, number in ((0, (0, 1)), (1, (0, 1)), (3, (6, 1))):
            self.assertEqual(best(row, place, 8), Best(number, []))
        self.assertEqual(best(Row((3,), (1,)), 1, 8), Best((1, 1), []))

    def test_orders_are_new(self):
        row = Row((1, 1), (0, 2))
        fewest(row, 1, 1, 8).append(7)
        best(row, 1, 8).order.append(7)
        self.assertEqual([fewest(row, 1, 1, 8), best(row, 1, 8).order], [[1], [1]])


class Evidence(unittest.TestCase):
    def test_spoilt(self):
        row = Row((1, 1, 1), (0, 0, 4))
        self.assertTrue(Best((1, 1), [2, 1]).shows(row, 1, 2))
        self.assertTrue(Best((1, 1), (2, 1)).shows(row, 1, 3))
        for number, order in (((2, 1), [2, 1]), ((0, 1), [2, 1]), ((1, 1), [1, 2]), ((1, 1), []), ((0, 1), []),
                              ((1, 1), [2, 2, 1]), ((2, 2), [2, 1]), ((5, 4), [2, 1, 2, 1]), ((1, 1), [2, 1, 2, 1]),
                              ((0, 0), [2, 1])):
            self.assertFalse(Best(number, order).shows(row, 1, 3), (number, order))
        self.assertEqual(behind(row, [1, 2]).sums()[1], (0, 1))
        self.assertFalse(Best((0, 1), [1, 2]).shows(row, 1, 2))
        self.assertFalse(Best((1, 1), [2, 1]).shows(row, 1, 1))
        self.assertFalse(Best((1, 1), [2, 1]).shows(row, 1, 4))
        self.assertFalse(Best((1, 1), [2, 1]).shows(row, 2, 2))

    def test_not_a_shortest_one(self):
        row = Row((1, 1, 1), (0, 0, 4))
        self.assertEqual(behind(row, [1, 2, 1]).sums()[1], (1, 1))
        self.assertFalse(Best((1, 1), [1, 2, 1]).shows(row, 1, 3))

    def test_order_is_copied(self):
        order = [2, 1]
        told = Best((1, 1), order)
        order.append(1)
        self.assertEqual(told.order, [2, 1])
        self.assertIsInstance(Best((1, 1), (2, 1)).order, list)

    def test_equality_and_bool(self):
        self.assertEqual(Best((1, 1), [2]), Best((1, 1), (2,)))
        self.assertNotEqual(Best((1, 1), [2]), Best((1, 1), [1]))
        self.assertNotEqual(Best((1, 1), [2]), Best((2, 1), [2]))
        self.assertNotEqual(Best((1, 1), [2]), ((1, 1), [2]))
        self.assertIs(bool(Best((0, 1), [])), True)

    def test_changed_attributes(self):
        row = Row((1, 1, 1), (0, 0, 4))
        told = best(row, 1, 2)
        told.order = [1, 2]
        self.assertFalse(told.shows(row, 1, 2))
        told.order = [2, 1]
        self.assertTrue(told.shows(row, 1, 2))


class Refused(unittest.TestCase):
    def test_no_row(self):
        for call in (best, Best((0, 1), []).shows):
            self.assertRaises(BadRow, call, None, -1, 9)
        self.assertRaises(BadRow, fewest, None, -1, None, 9)

    def test_numbers(self):
        row = Row((1, 1), (0, 2))
        shows = Best((0, 1), [7]).shows
        for place in (-1, 3, True, None, (1, 1)):
            for call in (best, shows):
                self.assertRaises(BadNumber, call, row, place, 2)
            self.assertRaises(BadNumber, fewest, row, place, 1, 2)
        for many in (-1, 9, True, None, (1, 1)):
            for call in (best, shows):
                self.assertRaises(BadNumber, call, row, 1, many)
            self.assertRaises(BadNumber, fewest, row, 1, 1, many)
        for number in (None, True, (1, 0), (1, -1), [1, 1], 0.5, "1"):
            self.assertRaises(BadNumber, fewest, row, 1, number, 2)

    def test_orders_of_evidence(self):
        row = Row((1, 1, 1), (0, 0, 4), [2])
        for order, place in (([2], 0), ([1, 0], 1), ([1, 1, 3], 2), ([1] * 20001, None)):
            with self.assertRaises(BadOrder) as caught:
                Best((0, 1), order).shows(row, 1, 2)
            self.assertEqual(caught.exception.place, place)
        self.assertFalse(Best((0, 1), [1] * 20000).shows(row, 1, 8))
