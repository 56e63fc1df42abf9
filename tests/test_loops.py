"""Point [6], and the conventions [1] for its evidence."""

import random
import unittest
from fractions import Fraction

from tests.brute import after, fraction, heights, opened, pair, random_order, random_row
from weirlines.errors import BadNumber, BadOrder, BadRow
from weirlines.loops import Settles, Tends, limit, rounds_within, runs, settling
from weirlines.rows import Row, behind


def plain_runs(row, order):
    found, first = [], 0
    for weir in range(1, len(row) + 1):
        if weir not in order:
            found.append((first, weir))
            first = weir
    return found


def plain_limit(row, order):
    """The heights that all tends to, for each basin."""
    volumes = [fraction(volume) for volume in row.volumes]
    found = []
    for first, end in plain_runs(row, order):
        found.extend([sum(volumes[first:end]) / sum(row.areas[first:end])] * (end - first))
    return found


def widths_left(row, order, most):
    """The greatest difference of heights from the limit's behind 0, 1, .. rounds."""
    goal, volumes, found = plain_limit(row, order), after(row, []), []
    for _ in range(most + 1):
        found.append(max(abs(one - other) for one, other in zip(heights(row, volumes), goal)))
        for weir in order:
            volumes = opened(row.areas, volumes, weir)
    return found


def cases(seed, many):
    rng = random.Random(seed)
    for _ in range(many):
        row = random_row(rng, rng.randint(1, 5), most_area=3, most_volume=3, locked=0.15)
        yield row, random_order(rng, row, rng.randint(0, 6))


class Loops(unittest.TestCase):
    def test_runs_and_limit(self):
        for row, order in cases(1, 150):
            self.assertEqual(runs(row, order), plain_runs(row, order))
            late = limit(row, order)
            self.assertEqual([fraction(height) for height in late.heights()], plain_limit(row, order))
            self.assertEqual(late, Row(row.areas, late.volumes, row.locks))

    def test_runs_by_hand(self):
        row = Row((1, 1, 1, 1), (0, 0, 0, 4), [2])
        self.assertEqual(runs(row, []), [(0, 1), (1, 2), (2, 3), (3, 4)])
        self.assertEqual(runs(row, [3, 1, 3]), [(0, 2), (2, 4)])
        self.assertEqual(runs(Row((1, 1, 1), (0, 0, 0)), (2, 1)), [(0, 3)])
        self.assertEqual(runs(Row((2,), (1,)), []), [(0, 1)])

    def test_limit_by_hand(self):
        row = Row((1, 2, 3), (6, 0, 0))
        self.assertEqual(limit(row, []), row)
        self.assertEqual(limit(row, [1]).volumes, ((2, 1), (4, 1), (0, 1)))
        self.assertEqual(limit(row, [2, 1, 2]).volumes, ((1, 1), (2, 1), (3, 1)))

    def test_settling(self):
        kinds = set()
        for row, order in cases(2, 300):
            left = widths_left(row, order, len(row))
            told = settling(row, order)
            if 0 in left:
                self.assertEqual(told, Settles(left.index(0)))
            else:
                self.assertEqual(told, Tends(pair(left[-1])))
            kinds.add((bool(told), told.rounds if told else None))
            self.assertTrue(told.shows(row, order))
        self.assertLessEqual({(False, None), (True, 0), (True, 1)}, kinds)

    def test_settling_by_hand(self):
        self.assertEqual(settling(Row((1, 1), (4, 0)), []), Settles(0))
        self.assertEqual(settling(Row((1, 1, 1), (2, 2, 2)), [1, 2]), Settles(0))
        self.assertEqual(settling(Row((1, 1, 1, 1), (4, 0, 1, 5)), [3, 1, 3]), Settles(1))
        self.assertEqual(settling(Row((1, 1, 1), (2, 0, 4)), [2, 1]), Settles(1))
        self.assertFalse(settling(Row((1, 1, 1, 1), (9, 0, 0, 1)), [1, 2, 3, 2]))
        self.assertEqual(settling(Row((5,), (1,)), []), Settles(0))

    def test_settling_late(self):
        # All is even behind the second round, and not behind the first one.
        row = Row((1, 1, 1, 1), (0, 0, 1, 0))
        self.assertEqual(widths_left(row, [1, 2, 3], 2), [Fraction(3, 4), Fraction(1, 4), 0])
        self.assertEqual(settling(row, [1, 2, 3]), Settles(2))
        self.assertEqual(rounds_within(row, [1, 2, 3], (1, 10 ** 9)), 2)

    def test_rounds_within(self):
        for row, order in cases(3, 120):
            left = widths_left(row, order, 40)
            for width in (Fraction(5), Fraction(1, 3), Fraction(1, 50)):
                found = rounds_within(row, order, pair(width))
                self.assertEqual(found, min(at for at in range(41) if left[at] <= width))

    def test_rounds_within_at_the_edge(self):
        row = Row((1, 1, 1), (4, 0, 2))
        for rounds, width in enumerate(widths_left(row, [2, 1], 6)):
            self.assertEqual(rounds_within(row, [2, 1], pair(width)), rounds)
            self.assertEqual(rounds_within(row, [2, 1], pair(width * Fraction(999, 1000))), rounds + 1)
        self.assertEqual(rounds_within(row, [2, 1], 2), 0)
        self.assertEqual(rounds_within(row, [], (1, 1000)), 0)

    def test_many_rounds(self):
        row = Row((1,) * 24, (0,) * 23 + (1,))
        order = list(range(1, 24))
        rounds = rounds_within(row, order, (1, 1000))
        self.assertTrue(100 < rounds <= 300)
        for many, within in ((rounds, True), (rounds - 1, False)):
            late = behind(row, (order * many)[:20000])
            most = max(abs(fraction(height) - Fraction(1, 24)) for height in late.heights())
            self.assertEqual(most <= Fraction(1, 1000), within)

    def test_lists_are_new(self):
        row, order = Row((1, 1), (4, 0)), [1]
        runs(row, order).append(5)
        settling(row, order)
        rounds_within(row, order, 1)
        self.assertEqual([runs(row, order), order, row.volumes], [[(0, 2)], [1], ((4, 1), (0, 1))])


class Evidence(unittest.TestCase):
    def test_spoilt(self):
        row = Row((1, 1, 1), (4, 0, 2))
        self.assertTrue(Tends((1, 16)).shows(row, [2, 1]))
        for told in (Tends((1, 8)), Tends((1, 32)), Tends((2, 32)), Tends((0, 1)), Settles(0), Settles(3), Settles(-1)):
            self.assertFalse(told.shows(row, [2, 1]), told)
        self.assertTrue(Settles(1).shows(row, [1]))
        for told in (Settles(0), Settles(2), Settles(-1), Settles(10 ** 30), Tends((1, 2)), Tends((0, 1))):
            self.assertFalse(told.shows(row, [1]))

    def test_changed_attributes(self):
        row = Row((1, 1, 1), (4, 0, 2))
        told = settling(row, [1])
        told.rounds = 2
        self.assertFalse(told.shows(row, [1]))
        told = settling(row, [2, 1])
        told.width = (1, 15)
        self.assertFalse(told.shows(row, [2, 1]))

    def test_equality_and_bool(self):
        self.assertEqual(Settles(1), Settles(1))
        self.assertNotEqual(Settles(1), Settles(2))
        self.assertEqual(Tends((1, 2)), Tends((1, 2)))
        self.assertNotEqual(Tends((1, 2)), Tends((1, 3)))
        self.assertNotEqual(Settles(1), Tends(1))
        self.assertNotEqual(Settles(1), 1)
        self.assertIs(bool(Settles(0)), True)
        self.assertIs(bool(Tends((1, 2))), False)


class Refused(unittest.TestCase):
    CALLS = (runs, limit, settling, Settles(0).shows, Tends((1, 2)).shows)

    def test_no_row(self):
        for call in self.CALLS:
            self.assertRaises(BadRow, call, None, None)
        self.assertRaises(BadRow, rounds_within, None, None, None)

    def test_orders(self):
        row = Row((1, 1, 1), (1, 0, 0), [2])
        for order, place in (([1, 2], 1), ([3], 0), ([True], 0), (None, None), ("1", None), ([1] * 20001, None)):
            for call in self.CALLS:
                with self.assertRaises(BadOrder) as caught:
                    call(row, order)
                self.assertEqual(caught.exception.place, place)
            with self.assertRaises(BadOrder) as caught:
                rounds_within(row, order, 0)
            self.assertEqual(caught.exception.place, place)

    def test_widths(self):
        row = Row((1, 1), (1, 0))
        for width in (0, -1, (0, 1), (1, 0), (1, -1), True, None, [1, 2], 0.5):
            self.assertRaises(BadNumber, rounds_within, row, [1], width)
