"""Point [16], and the conventions [1] for its evidence."""

import random
import unittest
from fractions import Fraction
from itertools import combinations

from tests.brute import fraction, pair, parts, random_order, random_row
from weirlines.errors import BadOrder, BadRow, BadWeir
from weirlines.origins import Shares, shares, sources
from weirlines.rows import Row, behind
from weirlines.sameness import judge_orders


def plain_columns(areas, order):
    return [tuple(pair(part) for part in column) for column in parts(areas, order)]


def first_overtaken(columns):
    many = len(columns)
    for one, other in combinations(range(many), 2):
        for first, second in combinations(range(many), 2):
            told = [fraction(columns[basin][place]) for basin, place in
                    ((one, first), (other, second), (one, second), (other, first))]
            if told[0] * told[1] < told[2] * told[3]:
                return one, other, first, second
    return None


class Columns(unittest.TestCase):
    def test_against_each_basins_water_alone(self):
        rng = random.Random(1)
        for _ in range(150):
            row = random_row(rng, rng.randint(1, 6), locked=0.2)
            order = random_order(rng, row, rng.randint(0, 9))
            told = shares(row.areas, order, locks=row.locks)
            self.assertIsInstance(told, Shares)
            self.assertIsInstance(told.columns, list)
            self.assertEqual(told.columns, plain_columns(row.areas, order))
            self.assertEqual(told.columns, judge_orders(row.areas, order, order, locks=row.locks).columns)
            self.assertTrue(told.shows(row.areas, order, locks=row.locks))

    def test_one_basin_and_no_openings(self):
        self.assertEqual(shares((7,), []).columns, [((1, 1),)])
        self.assertEqual(shares((1, 2), ()).columns, [((1, 1), (0, 1)), ((0, 1), (1, 1))])
        self.assertEqual(shares((1, 2), (1,)).columns, [((1, 3), (2, 3)), ((1, 3), (2, 3))])

    def test_parts_of_all_water(self):
        rng = random.Random(2)
        for _ in range(40):
            row = random_row(rng, rng.randint(1, 7), locked=0.1)
            order = random_order(rng, row, 8)
            columns = shares(row.areas, order, locks=row.locks).columns
            late = behind(row, order)
            for place in range(len(row)):
                mixed = sum(fraction(volume) * fraction(columns[basin][place]) for basin, volume in enumerate(row))
                self.assertEqual(pair(mixed), late[place])
            for column in columns:
                self.assertEqual(sum(fraction(part) for part in column), 1)

    def test_what_basins_have_of_one_another(self):
        rng = random.Random(3)
        for _ in range(40):
            row = random_row(rng, rng.randint(2, 6), most_area=9)
            order = random_order(rng, row, 10)
            there, back = shares(row.areas, order).columns, shares(row.areas, order[::-1]).columns
            for one in range(len(row)):
                for other in range(len(row)):
                    self.assertEqual(fraction(there[one][other]) * row.areas[one],
                                     fraction(back[other][one]) * row.areas[other])


class Overtaking(unittest.TestCase):
    def test_never_in_orders(self):
        rng = random.Random(4)
        for _ in range(60):
            row = random_row(rng, rng.randint(1, 6), most_area=5, locked=0.1)
            order = random_order(rng, row, rng.randint(0, 14))
            told = shares(row.areas, order, locks=row.locks)
            self.assertIsNone(told.overtaken())
            self.assertIsNone(first_overtaken(told.columns))

    def test_first_numbers_of_changed_columns(self):
        rng = random.Random(5)
        seen = set()
        for _ in range(200):
            row = random_row(rng, rng.randint(2, 5))
            told = shares(row.areas, random_order(rng, row, rng.randint(0, 8)))
            for _ in range(rng.randint(1, 2)):
                basin = rng.randrange(len(row))
                column = list(told.columns[basin])
                rng.shuffle(column)
                told.columns[basin] = tuple(column)
            self.assertEqual(told.overtaken(), first_overtaken(told.columns))
            seen.add(told.overtaken())
        self.assertGreater(len(seen), 15)
        self.assertIn(None, seen)

    def test_by_hand(self):
        none, full = (0, 1), (1, 1)
        told = Shares([(none, full), (full, none)])
        self.assertEqual(told.overtaken(), (0, 1, 0, 1))
        self.assertIsInstance(told.overtaken(), tuple)
        told.columns = [(full, none), (none, full)]
        self.assertIsNone(told.overtaken())
        self.assertEqual(Shares([(full, none, none), (none, none, full), (none, full, none)]).overtaken(), (1, 2, 1, 2))
        half, third = (1, 2), (1, 3)
        self.assertEqual(Shares([(half, half), (third, (2, 3)), (half, half)]).overtaken(), (1, 2, 0, 1))
        self.assertIsNone(Shares([]).overtaken())
        self.assertIsNone(Shares([(full,)]).overtaken())

    def test_long_orders_of_many_basins(self):
        rng = random.Random(6)
        areas = tuple(rng.randint(1, 1000) for _ in range(24))
        order = [rng.randint(1, 23) for _ in range(400)]
        told = shares(areas, order)
        self.assertIsNone(told.overtaken())
        told.columns[22], told.columns[23] = told.columns[23], told.columns[22]
        self.assertEqual(told.overtaken()[:2], (22, 23))


class Ahead(unittest.TestCase):
    def test_all_places(self):
        rng = random.Random(7)
        for _ in range(40):
            row = random_row(rng, rng.randint(1, 6), locked=0.1)
            order = random_order(rng, row, 8)
            told = shares(row.areas, order, locks=row.locks)
            for place in range(len(row) + 1):
                self.assertEqual(told.ahead(place), [pair(sum(column[:place], Fraction(0)))
                                                     for column in parts(row.areas, order)])

    def test_later_basins_have_less_ahead(self):
        told = shares((3, 1, 2, 1), [2, 1, 3, 2, 1])
        self.assertEqual(told.ahead(0), [(0, 1)] * 4)
        self.assertEqual(told.ahead(4), [(1, 1)] * 4)
        found = [fraction(part) for part in told.ahead(2)]
        self.assertEqual(found, sorted(found, reverse=True))

    def test_new_each_time(self):
        told = shares((1, 1), [1])
        told.ahead(1).append(None)
        self.assertEqual(told.ahead(1), [(1, 2), (1, 2)])

    def test_changed_columns(self):
        self.assertEqual(Shares([((1, 6), (1, 3)), ((1, 1), (5, 2))]).ahead(2), [(1, 2), (7, 2)])


class Sources(unittest.TestCase):
    def test_against_columns(self):
        rng = random.Random(8)
        for _ in range(150):
            row = random_row(rng, rng.randint(1, 7), locked=0.15)
            order = random_order(rng, row, rng.randint(0, 9))
            columns = parts(row.areas, order)
            for basin in range(len(row)):
                found = [one for one in range(len(row)) if columns[one][basin] > 0]
                self.assertEqual(sources(row, order, basin), (found[0], found[-1] + 1))
                self.assertEqual(len(found), found[-1] + 1 - found[0])

    def test_by_hand(self):
        row = Row((1, 2, 1, 1), (0, 0, 0, 0))
        self.assertEqual([sources(row, [3, 2, 1], basin) for basin in range(4)], [(0, 4), (0, 4), (1, 4), (2, 4)])
        self.assertEqual([sources(row, (1, 2, 3), basin) for basin in range(4)], [(0, 2), (0, 3), (0, 4), (0, 4)])
        self.assertEqual(sources(row, [], 2), (2, 3))
        self.assertEqual(sources(Row((1,), (5,)), [], 0), (0, 1))


class Evidence(unittest.TestCase):
    def test_spoilt(self):
        columns = shares((1, 1, 1), [1, 2]).columns
        self.assertTrue(Shares(columns).shows((1, 1, 1), [1, 2]))
        for spoilt in ([], columns[:2], columns + columns[:1], columns[::-1], [tuple(list(columns[0])[:2])] + columns[1:],
                       [((2, 4), (1, 4), (1, 4))] + columns[1:], [((1, 2), (1, 4), (1, 3))] + columns[1:],
                       [((1, 2), (1, 4), (-1, 4))] + columns[1:], [((1, 2), (1, 4), (1, 0))] + columns[1:]):
            self.assertFalse(Shares(spoilt).shows((1, 1, 1), [1, 2]), spoilt)
        self.assertFalse(Shares(columns).shows((1, 1, 1), [2, 1]))
        self.assertFalse(Shares(columns).shows((1, 1, 2), [1, 2]))

    def test_changed_attributes(self):
        told = shares((1, 1), [1])
        told.columns[0] = ((1, 1), (0, 1))
        self.assertFalse(told.shows((1, 1), [1]))
        told.columns = [((1, 2), (1, 2)), ((1, 2), (1, 2))]
        self.assertTrue(told.shows((1, 1), [1]))

    def test_equality_and_bool(self):
        columns = [((1, 1),)]
        told = Shares(columns)
        columns.append(None)
        self.assertEqual(told, Shares((((1, 1),),)))
        self.assertNotEqual(told, Shares([]))
        self.assertNotEqual(told, [((1, 1),)])
        self.assertIs(bool(told), True)
        self.assertIs(bool(Shares([])), True)


class Refused(unittest.TestCase):
    def test_areas(self):
        for wrong in (None, [1, 1], (), (0,), (1001,), (True,), (1,) * 25, "1", ((1, 1),)):
            for call in (lambda: shares(wrong, None, locks=None), lambda: Shares([]).shows(wrong, None, locks=None)):
                self.assertRaises(BadRow, call)

    def test_locks(self):
        for locks, number in (([3], 3), ([1, 0], 0), ((2, True), None), ([-1], -1), (["1"], None)):
            for call in (lambda: shares((1, 1, 1), [9], locks=locks), lambda: Shares([]).shows((1, 1, 1), 9, locks=locks)):
                with self.assertRaises(BadWeir) as caught:
                    call()
                self.assertEqual(caught.exception.number, number)

    def test_orders(self):
        for order, place in ((None, None), ("12", None), ([1] * 20001, None), ([1, 3], 1), ([1, 1, True], 2), ([2], 0)):
            for call in (lambda: shares((1, 1, 1), order, locks=[2]),
                         lambda: Shares([]).shows((1, 1, 1), order, locks=[2]),
                         lambda: sources(Row((1, 1, 1), (0, 0, 0), [2]), order, 0)):
                with self.assertRaises(BadOrder) as caught:
                    call()
                self.assertEqual(caught.exception.place, place)

    def test_rows(self):
        for wrong in (None, (1, 1), [1]):
            self.assertRaises(BadRow, sources, wrong, None, None)
