"""Point [7], and the conventions [1] for its evidence."""

import random
import unittest

from tests.brute import after, pair, random_order, random_row
from weirlines.errors import BadOrder, BadRow, BadWeir
from weirlines.rows import Row, behind
from weirlines.sameness import Differ, Same, judge_orders, tidy


def plain_columns(areas, order):
    many = len(areas)
    rows = [Row(areas, tuple(int(at == basin) for at in range(many))) for basin in range(many)]
    return [tuple(pair(volume) for volume in after(row, order)) for row in rows]


def all_exchanged(order):
    """All lists that come of an order by exchanges and leaving out."""
    found, left = {tuple(order)}, [tuple(order)]
    while left:
        told = left.pop()
        for at in range(1, len(told)):
            one, other = told[at - 1], told[at]
            late = None
            if one == other:
                late = told[:at] + told[at + 1:]
            elif abs(one - other) >= 2:
                late = told[:at - 1] + (other, one) + told[at + 1:]
            if late is not None and late not in found:
                found.add(late)
                left.append(late)
    return found


class Judging(unittest.TestCase):
    def test_at_random(self):
        rng = random.Random(1)
        kinds = set()
        for _ in range(200):
            row = random_row(rng, rng.randint(1, 5), most_area=3, locked=0.1)
            one = random_order(rng, row, rng.randint(0, 4))
            other = rng.sample(one, len(one)) if rng.random() < 0.7 else random_order(rng, row, 3)
            told = judge_orders(row.areas, one, other, locks=row.locks)
            columns, others = plain_columns(row.areas, one), plain_columns(row.areas, other)
            if columns == others:
                self.assertEqual(told, Same(columns))
            else:
                self.assertEqual(told, Differ(min(at for at in range(len(row)) if columns[at] != others[at])))
            self.assertTrue(told.shows(row.areas, one, other, locks=row.locks))
            kinds.add(bool(told))
        self.assertEqual(kinds, {True, False})

    def test_by_hand(self):
        told = judge_orders((1, 3), [1], [1, 1])
        self.assertEqual(told.columns, [((1, 4), (3, 4)), ((1, 4), (3, 4))])
        self.assertIsInstance(told.columns, list)
        self.assertEqual(judge_orders((1,), [], ()), Same([((1, 1),)]))
        self.assertEqual(judge_orders((1, 1, 1), [1], [2]), Differ(0))

    def test_a_later_basin_tells(self):
        self.assertEqual(judge_orders((1, 1, 1, 1), [2, 3], [3, 2]), Differ(1))
        self.assertEqual(judge_orders((1, 1, 1, 1), [3], []), Differ(2))

    def test_orders_that_are_the_same_otherwise(self):
        one, other = [1, 3, 2, 3, 2, 1, 3], [1, 3, 2, 1, 2, 1, 3]
        row = Row((1, 1, 1, 1), (0, 0, 0, 0))
        self.assertNotEqual(tidy(row, one), tidy(row, other))
        self.assertEqual(judge_orders(row.areas, one, other), Same(plain_columns(row.areas, one)))
        self.assertFalse(judge_orders((1, 1, 1, 2), one, other))

    def test_locks(self):
        self.assertTrue(judge_orders((1, 1, 1), [1], [1], locks=[2]))
        self.assertTrue(judge_orders((1, 1, 1), [1], [1], locks=(2, 2)))

    def test_long_orders(self):
        order = [3, 1, 2, 2, 3] * 4000
        told = judge_orders((1, 2, 1, 1), order, tidy(Row((1, 2, 1, 1), (0, 0, 0, 0)), order))
        self.assertTrue(told)


class Evidence(unittest.TestCase):
    def test_spoilt_same(self):
        columns = [((1, 2), (1, 2)), ((1, 2), (1, 2))]
        self.assertTrue(Same(columns).shows((1, 1), [1], [1, 1]))
        for spoilt in ([], columns[:1], columns + columns[:1], [((1, 2), (1, 2)), ((1, 2), (1, 3))],
                       [((1, 1), (0, 1)), ((0, 1), (1, 1))], [((2, 4), (1, 2)), ((1, 2), (1, 2))],
                       [((1, 2), (1, 2), (0, 1)), ((1, 2), (1, 2))]):
            self.assertFalse(Same(spoilt).shows((1, 1), [1], [1, 1]), spoilt)
        self.assertFalse(Same(columns).shows((1, 1), [1], []))
        self.assertFalse(Same(columns).shows((1, 1), [], []))
        self.assertFalse(Differ(0).shows((1, 1), [1], [1, 1]))

    def test_spoilt_differ(self):
        self.assertTrue(Differ(1).shows((1, 1, 1, 1), [2, 3], [3, 2]))
        for basin in (0, 2, 3, 4, -1, -3, 10 ** 9):
            self.assertFalse(Differ(basin).shows((1, 1, 1, 1), [2, 3], [3, 2]), basin)

    def test_attributes(self):
        columns = [((1, 1),)]
        told = Same(columns)
        columns.append(None)
        self.assertEqual(told.columns, [((1, 1),)])
        self.assertEqual(Same((((1, 1),),)).columns, [((1, 1),)])
        told.columns = [((1, 2),)]
        self.assertFalse(told.shows((1,), [], []))

    def test_equality_and_bool(self):
        self.assertEqual(Same([((1, 1),)]), Same((((1, 1),),)))
        self.assertNotEqual(Same([((1, 1),)]), Same([]))
        self.assertEqual(Differ(1), Differ(1))
        self.assertNotEqual(Differ(1), Differ(0))
        self.assertNotEqual(Same([]), Differ(0))
        self.assertNotEqual(Differ(0), 0)
        self.assertIs(bool(Same([])), True)
        self.assertIs(bool(Differ(3)), False)


class Tidy(unittest.TestCase):
    def test_against_all_exchanges(self):
        rng = random.Random(2)
        for _ in range(400):
            row = Row((1,) * 6, (0,) * 6)
            order = [rng.randint(1, rng.choice((2, 3, 5))) for _ in range(rng.randint(0, 8))]
            found = all_exchanged(order)
            fewest = min(len(told) for told in found)
            self.assertEqual(tidy(row, order), list(min(told for told in found if len(told) == fewest)))

    def test_does_the_same(self):
        rng = random.Random(3)
        for _ in range(100):
            row = random_row(rng, rng.randint(1, 6), locked=0.1)
            order = random_order(rng, row, 12)
            self.assertEqual(behind(row, tidy(row, order)), behind(row, order))

    def test_by_hand(self):
        row = Row((1,) * 6, (0,) * 6)
        self.assertEqual(tidy(row, ()), [])
        self.assertEqual(tidy(row, (5, 4, 3, 2, 1)), [5, 4, 3, 2, 1])
        self.assertEqual(tidy(row, [5, 3, 1, 5, 3, 1]), [1, 3, 5])
        self.assertEqual(tidy(row, [2, 1, 2, 4, 2, 1]), [2, 1, 2, 1, 4])
        self.assertEqual(tidy(row, [2, 4, 3, 4, 2]), [2, 4, 3, 2, 4])

    def test_long_orders(self):
        row = Row((1,) * 24, (0,) * 24)
        rng = random.Random(4)
        order = random_order(rng, row, 20000)
        found = tidy(row, order)
        self.assertEqual(tidy(row, found), found)
        self.assertEqual(tidy(row, [7] * 20000), [7])

    def test_nothing_given_is_changed(self):
        order = [3, 1, 1]
        tidy(Row((1,) * 4, (0,) * 4), order).append(9)
        self.assertEqual(order, [3, 1, 1])


class Refused(unittest.TestCase):
    CALLS = (judge_orders, Same([]).shows, Differ(0).shows)

    def test_areas(self):
        for areas in ([1, 1], (), (0, 1), (1, 1001), (True, 1), None, (1,) * 25):
            for call in self.CALLS:
                self.assertRaises(BadRow, call, areas, [9], None, locks=[9])

    def test_locks(self):
        for locks, number in (([3], 3), ([1, 0], 0), ([None], None), ([True], None)):
            for call in self.CALLS:
                with self.assertRaises(BadWeir) as caught:
                    call((1, 1, 1), [9], None, locks=locks)
                self.assertEqual(caught.exception.number, number)

    def test_orders(self):
        for one, other, place in (([1, 2], [1], 1), ([1], [1, 1, 2], 2), ([3], [1, 3], 0), (None, [3], None),
                                  ([1, 1, 9], None, 2), ([1], "1", None), ([1] * 20001, [2], None), ([True], [1], 0)):
            for call in self.CALLS:
                with self.assertRaises(BadOrder) as caught:
                    call((1, 1, 1), one, other, locks=[2])
                self.assertEqual(caught.exception.place, place)

    def test_tidy(self):
        row = Row((1, 1, 1), (0, 0, 0), [2])
        self.assertRaises(BadRow, tidy, (1, 1, 1), None)
        for order, place in (([1, 2], 1), (None, None), ([0], 0), ([1] * 20001, None), ([True], 0)):
            with self.assertRaises(BadOrder) as caught:
                tidy(row, order)
            self.assertEqual(caught.exception.place, place)
