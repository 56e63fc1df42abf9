"""Points [2] and [3], and the conventions [1] for rows and orders."""

import random
import unittest
from fractions import Fraction

from tests.brute import after, fraction, heights, pair, random_order, random_row
from weirlines.errors import BadOrder, BadRow, BadWeir
from weirlines.rows import Row, behind, steps


class RowMade(unittest.TestCase):
    def test_attributes(self):
        row = Row((1, 2, 3), (0, (4, 6), (6, 2)), [2, 1, 2])
        self.assertEqual(row.areas, (1, 2, 3))
        self.assertEqual(row.volumes, ((0, 1), (2, 3), (3, 1)))
        self.assertEqual(row.locks, (1, 2))
        self.assertIsInstance(row.locks, tuple)

    def test_zero_is_told_one_way(self):
        self.assertEqual(Row((1,), ((0, 7),)).volumes, ((0, 1),))

    def test_locks_as_tuple(self):
        self.assertEqual(Row((1, 1, 1), (0, 0, 0), (2, 1)).locks, (1, 2))
        self.assertEqual(Row((1, 1, 1), (0, 0, 0)).locks, ())

    def test_locks_are_copied(self):
        locks = [2]
        row = Row((1, 1, 1), (0, 0, 0), locks)
        locks.append(1)
        self.assertEqual(row.locks, (2,))
        self.assertEqual(locks, [2, 1])

    def test_limits(self):
        self.assertEqual(len(Row((1000,) * 24, (0,) * 24)), 24)
        self.assertEqual(len(Row((1,), (0,))), 1)

    def test_equality(self):
        row = Row((1, 2), (1, 2), [1])
        self.assertEqual(row, Row((1, 2), ((2, 2), (4, 2)), (1, 1)))
        self.assertNotEqual(row, Row((1, 2), (1, 2)))
        self.assertNotEqual(row, Row((1, 3), (1, 2), [1]))
        self.assertNotEqual(row, Row((1, 2), (1, 3), [1]))
        self.assertFalse(row == ((1, 2), ((1, 1), (2, 1)), (1,)))
        self.assertTrue(row != 5)

    def test_as_a_sequence(self):
        row = Row((1, 2), ((1, 2), 4))
        self.assertEqual(len(row), 2)
        self.assertEqual([row[0], row[1]], [(1, 2), (4, 1)])
        self.assertEqual(list(row), [(1, 2), (4, 1)])

    def test_weirs(self):
        row = Row((1, 1, 1, 1), (0, 0, 0, 0), [2])
        self.assertEqual(row.weirs(), [1, 3])
        self.assertEqual([weir for weir in range(-2, 7) if weir in row], [1, 3])
        self.assertEqual(Row((1,), (0,)).weirs(), [])

    def test_heights_sums_reaches(self):
        row = Row((2, 4, 1), (1, (6, 4), 0))
        self.assertEqual(row.heights(), [(1, 2), (3, 8), (0, 1)])
        self.assertEqual(row.sums(), [(0, 1), (1, 1), (5, 2), (5, 2)])
        self.assertEqual(row.reaches(), [0, 2, 6, 7])
        single = Row((5,), (3,))
        self.assertEqual([single.sums(), single.reaches()], [[(0, 1), (3, 1)], [0, 5]])

    def test_lists_are_new(self):
        row = Row((1, 1), (0, 1))
        for method in (row.weirs, row.heights, row.sums, row.reaches):
            method().append(None)
            self.assertNotIn(None, method())


class RowRefused(unittest.TestCase):
    def refuse(self, *told):
        with self.assertRaises(BadRow):
            Row(*told)

    def test_areas(self):
        for areas in ([1, 1], (), (0, 1), (1, 1001), (1, True), (1, "1"), (1, (1, 1)), None, 5, (1, 1.0), (-1, 1)):
            self.refuse(areas, (0, 0))

    def test_volumes(self):
        for volumes in ([0, 0], (0,), (0, 0, 0), (0, -1), (0, (-1, 2)), (0, (1, 0)), (0, (1, -1)), (0, True), (0, None),
                        (0, [1, 2]), (0, (1, 2, 3)), (0, (1,)), (0, (True, 1)), (0, (1, True)), (0, 0.5), None):
            self.refuse((1, 1), volumes)

    def test_number_of_basins(self):
        self.refuse((), ())
        self.refuse((1,) * 25, (0,) * 25)

    def test_locks_that_are_no_list(self):
        for locks in (None, 1, {1: 1}, {1}, "1"):
            self.refuse((1, 1), (0, 0), locks)

    def test_first_lock_that_is_none(self):
        for locks, number in (([1, 3, 0], 3), ([0], 0), ([-1, 9], -1), ([2, "1"], None), ([True], None), ([None], None),
                              (["x", 7], None), ([7, "x"], 7), ([(1, 1)], None)):
            with self.assertRaises(BadWeir) as caught:
                Row((1, 1, 1), (0, 0, 0), locks)
            self.assertEqual(caught.exception.number, number)

    def test_no_lock_in_a_row_of_one(self):
        with self.assertRaises(BadWeir) as caught:
            Row((1,), (0,), (1,))
        self.assertEqual(caught.exception.number, 1)

    def test_rows_come_first(self):
        self.refuse((1, 1), (0, -1), [9])
        self.refuse((1, 0), (0, 0), [9])


class Opening(unittest.TestCase):
    def test_whole(self):
        row = Row((1, 3), (4, 0))
        self.assertEqual(row.opened(1).volumes, ((1, 1), (3, 1)))
        self.assertEqual(row.volumes, ((4, 1), (0, 1)))

    def test_keeps_the_rest(self):
        row = Row((1, 1, 2, 1), (1, 5, 1, 9), [1])
        late = row.opened(2)
        self.assertEqual(late, Row((1, 1, 2, 1), (1, 2, 4, 9), [1]))

    def test_in_part(self):
        row = Row((1, 1), (4, 0))
        self.assertEqual(row.opened(1, (1, 2)).volumes, ((3, 1), (1, 1)))
        self.assertEqual(row.opened(1, 0).volumes, ((4, 1), (0, 1)))
        self.assertEqual(row.opened(1, (0, 5)).volumes, ((4, 1), (0, 1)))
        self.assertEqual(row.opened(1, 1), row.opened(1))
        self.assertEqual(row.opened(1, (3, 3)), row.opened(1))
        self.assertEqual(row.opened(1, share=(2, 4)), row.opened(1, (1, 2)))

    def test_in_part_at_random(self):
        rng = random.Random(21)
        for _ in range(200):
            row = random_row(rng, rng.randint(2, 5))
            weir = rng.choice(row.weirs())
            share = Fraction(rng.randint(0, 4), 4)
            early, late = after(row, []), after(row, [weir])
            wanted = [one + (other - one) * share for one, other in zip(early, late)]
            self.assertEqual(list(row.opened(weir, pair(share))), [pair(volume) for volume in wanted])

    def test_refused(self):
        row = Row((1, 1, 1), (1, 2, 3), [2])
        for weir, number in ((2, 2), (0, 0), (3, 3), (-1, -1), (True, None), ("1", None), (None, None), ((1, 1), None)):
            with self.assertRaises(BadWeir) as caught:
                row.opened(weir)
            self.assertEqual(caught.exception.number, number)


class Orders(unittest.TestCase):
    def test_against_plain_reckoning(self):
        rng = random.Random(3)
        for _ in range(150):
            row = random_row(rng, rng.randint(1, 7), most_area=9, locked=0.2)
            order = random_order(rng, row, rng.randint(0, 12))
            late = behind(row, order)
            self.assertEqual([fraction(volume) for volume in late], after(row, order))
            self.assertEqual(late, Row(row.areas, late.volumes, row.locks))
            self.assertEqual([list(step) for step in steps(row, order)],
                             [[pair(volume) for volume in after(row, order[:at + 1])] for at in range(len(order))])

    def test_steps_are_rows(self):
        row = Row((1, 1, 1), (4, 0, 2), [2])
        found = list(steps(row, (1, 1)))
        self.assertEqual(found, [Row((1, 1, 1), (2, 2, 2), [2])] * 2)
        self.assertEqual(list(steps(row, [])), [])

    def test_order_as_tuple(self):
        row = Row((1, 1, 1), (4, 0, 2))
        self.assertEqual(behind(row, (1, 2)), behind(row, [1, 2]))
        self.assertEqual(behind(row, ()), row)
        self.assertEqual(behind(Row((2,), (1,)), []), Row((2,), (1,)))

    def test_nothing_given_is_changed(self):
        row, order = Row((1, 1, 1), (4, 0, 2)), [1, 2]
        behind(row, order)
        list(steps(row, order))
        self.assertEqual([row.volumes, order], [((4, 1), (0, 1), (2, 1)), [1, 2]])

    def test_long_orders(self):
        row = Row((1, 1, 1), (1, 0, 0))
        late = behind(row, [1, 2] * 10000)
        self.assertEqual(sum(fraction(volume) for volume in late), 1)
        self.assertEqual(late.heights()[1], late.heights()[2])
        self.assertGreater(fraction(late[0]), Fraction(1, 3))

    def check_refused(self, row, order, place):
        with self.assertRaises(BadOrder) as caught:
            behind(row, order)
        self.assertEqual(caught.exception.place, place)
        told = steps(row, order)
        with self.assertRaises(BadOrder) as caught:
            next(told)
        self.assertEqual(caught.exception.place, place)

    def test_refused(self):
        row = Row((1, 1, 1), (4, 0, 2), [2])
        for order, place in (([2], 0), ([1, 1, 3], 2), ([1, 0, 9], 1), ([1, True], 1), ([1, None, 2], 1), (None, None),
                             ("1", None), ({1: 1}, None), (1, None), ([1] * 20001, None), ([9] * 20001, None)):
            self.check_refused(row, order, place)
        self.assertEqual(behind(row, [1] * 20000), behind(row, [1]))

    def test_steps_do_not_keep_the_order(self):
        order = [1, 2]
        told = steps(Row((1, 1, 1), (4, 0, 2)), order)
        next(told)
        order.clear()
        self.assertEqual([late.volumes for late in told], [((2, 1), (2, 1), (2, 1))])

    def test_steps_refuse_late(self):
        told = steps(Row((1, 1), (1, 0)), [5])
        self.assertRaises(BadOrder, next, told)
        told = steps(None, [5])
        self.assertRaises(BadRow, next, told)

    def test_no_row(self):
        for thing in (None, ((1, 1), (0, 0)), 5):
            self.assertRaises(BadRow, behind, thing, [7])
