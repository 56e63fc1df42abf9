"""Point [25], and the conventions [1] for its evidence."""

import random
import unittest
from fractions import Fraction

from tests.brute import chord_bound, fraction, pair, random_row
from weirlines.bounds import highest
from weirlines.errors import BadNumber, BadRow, NoOrder
from weirlines.rooms import Room, counted, drain, room, share_out
from weirlines.rows import Row


def added(row, basin, volume):
    volumes = list(row.volumes)
    volumes[basin] = pair(fraction(volumes[basin]) + volume)
    return Row(row.areas, tuple(volumes), row.locks)


def bound(row, place):
    return chord_bound(row, place, 1)


def all_rooms(row, basin, place, number):
    """All Rooms that are as described, from all pairs of points."""
    greatest = room_by_lines(row, basin, place, number)
    if greatest is None:
        return []
    late = added(row, basin, greatest)
    return [Room(pair(greatest), one, other) for one, other, level in lines(late, place)
            if level == number and share(row, one, other, place, basin) > 0]


def lines(row, place):
    """All pairs of points around a place, between the same locks, with the number that they tell there."""
    points = [Fraction(0)]
    for volume in row.volumes:
        points.append(points[-1] + fraction(volume))
    far = [sum(row.areas[:at]) for at in range(len(row) + 1)]
    for one in range(place + 1):
        for other in range(max(place, one + 1), len(row) + 1):
            if not any(one < lock < other for lock in row.locks):
                rise = (points[other] - points[one]) / (far[other] - far[one])
                yield one, other, points[one] + rise * (far[place] - far[one])


def share(row, one, other, place, basin):
    """By how much a basin counts for the line through two points."""
    if basin < one:
        return Fraction(1)
    return Fraction(0) if basin >= other else Fraction(sum(row.areas[one:place]), sum(row.areas[one:other]))


def room_by_lines(row, basin, place, number):
    """The greatest volume that can be added, from all pairs of points; None if there is no end."""
    found = []
    for one, other, level in lines(row, place):
        counts = share(row, one, other, place, basin)
        if counts > 0:
            found.append((number - level) / counts)
    return min(found, default=None)


def cases(seed, many):
    rng = random.Random(seed)
    for _ in range(many):
        row = random_row(rng, rng.randint(1, 6), locked=0.2)
        yield rng, row, rng.randrange(len(row)), rng.randint(0, len(row))


class Counted(unittest.TestCase):
    def test_all_places(self):
        for rng, row, _, _ in cases(1, 200):
            for place in range(len(row) + 1):
                told = counted(row, place)
                self.assertIsInstance(told, list)
                self.assertEqual(len(told), len(row))
                total = sum(fraction(part) * fraction(volume) for part, volume in zip(told, row.volumes))
                self.assertEqual(total, bound(row, place))
                self.assertIsNotNone(self.points(row, place, told))

    def points(self, row, place, told):
        """Two points by which basins count just so, as in a High."""
        for one, other, _ in lines(row, place):
            if told == [pair(share(row, one, other, place, basin)) for basin in range(len(row))]:
                return one, other
        self.fail((row.areas, row.volumes, row.locks, place, told))

    def test_never_above_the_bound_for_other_points(self):
        for rng, row, basin, place in cases(2, 80):
            late = added(row, basin, rng.randint(1, 5))
            told = counted(late, place)
            total = sum(fraction(part) * fraction(volume) for part, volume in zip(told, row.volumes))
            self.assertLessEqual(total, bound(row, place))

    def test_by_hand(self):
        row = Row((1, 1, 1, 1), (0, 0, 2, 2))
        self.assertEqual([counted(row, place) for place in (0, 4)], [[(0, 1)] * 4, [(1, 1)] * 4])
        self.assertEqual(counted(row, 3), [(3, 4)] * 4)
        self.assertEqual(counted(Row((2, 1, 3), (9, 0, 6), [1]), 2), [(1, 1), (1, 4), (1, 4)])
        self.assertEqual(counted(Row((2, 1, 3), (9, 0, 6), [1]), 1), [(1, 1), (0, 1), (0, 1)])
        self.assertEqual(counted(Row((5,), (1,)), 1), [(1, 1)])

    def test_new_each_time(self):
        row = Row((1, 1), (0, 2))
        counted(row, 1).append(None)
        self.assertEqual(counted(row, 1), [(1, 2), (1, 2)])


class Rooms(unittest.TestCase):
    def test_a_little_more_passes(self):
        seen = set()
        for rng, row, basin, place in cases(3, 250):
            number = bound(row, place) + Fraction(rng.randint(0, 6), rng.randint(1, 3))
            told = room(row, basin, place, pair(number))
            greatest = room_by_lines(row, basin, place, number)
            seen.add(told is None)
            if told is None:
                self.assertIsNone(greatest)
                self.assertLessEqual(bound(added(row, basin, 10 ** 9), place), number)
                continue
            self.assertIsInstance(told, Room)
            self.assertEqual(told.volume, pair(greatest))
            self.assertLessEqual(bound(added(row, basin, greatest), place), number)
            self.assertGreater(bound(added(row, basin, greatest + Fraction(1, 10 ** 9)), place), number)
            self.assertTrue(told.shows(row, basin, place, pair(number)))
        self.assertEqual(seen, {True, False})

    def test_all_pairs_of_points(self):
        for rng, row, basin, place in cases(4, 120):
            number = bound(row, place) + rng.randint(0, 3)
            right = all_rooms(row, basin, place, number)
            told = room(row, basin, place, pair(number))
            if right:
                self.assertIn(told, right)
            for one in range(-2, len(row) + 3):
                for other in range(-2, len(row) + 3):
                    made = Room(right[0].volume if right else (0, 1), one, other)
                    self.assertIs(made.shows(row, basin, place, pair(number)), made in right, (one, other))

    def test_by_hand(self):
        row = Row((1, 1, 1, 1), (0, 0, 2, 2))
        self.assertEqual(room(row, 3, 1, 2).volume, (4, 1))
        self.assertEqual(room(row, 0, 4, 4).volume, (0, 1))
        self.assertIsNone(room(row, 0, 0, 0))
        self.assertEqual(room(Row((1, 1, 1, 1), (0, 0, 2, 2), [3]), 2, 3, 3), Room((1, 1), 0, 3))
        self.assertIsNone(room(Row((1, 1, 1, 1), (0, 0, 2, 2), [3]), 3, 3, 2))
        self.assertEqual(room(Row((1,), (2,)), 0, 1, (7, 2)), Room((3, 2), 0, 1))

    def test_refused_if_more_is_there_already(self):
        row = Row((1, 1, 1, 1), (0, 0, 2, 2))
        self.assertRaises(NoOrder, room, row, 3, 1, (99, 100))
        self.assertRaises(NoOrder, room, row, 3, 0, -1)
        self.assertRaises(NoOrder, room, row, 0, 4, (7, 2))
        self.assertEqual(room(row, 3, 1, 1).volume, (0, 1))

    def test_greater_numbers(self):
        for rng, row, basin, place in cases(5, 60):
            number = bound(row, place) + Fraction(rng.randint(0, 3), 2)
            one, more = room(row, basin, place, pair(number)), room(row, basin, place, pair(number + 1))
            if one is None:
                self.assertIsNone(more)
            else:
                self.assertGreaterEqual(fraction(more.volume) - fraction(one.volume), 1)

    def test_many_basins(self):
        rng = random.Random(6)
        row = random_row(rng, 24, most_area=1000)
        for basin in (0, 11, 12, 23):
            number = pair(bound(row, 12) + 1)
            told = room(row, basin, 12, number)
            self.assertEqual(fraction(told.volume), room_by_lines(row, basin, 12, fraction(number)))
            self.assertEqual(highest(added(row, basin, fraction(told.volume)), 12).number, number)


class Drains(unittest.TestCase):
    def test_a_little_less_is_not_enough(self):
        seen = set()
        for rng, row, basin, place in cases(7, 300):
            number = bound(row, place) - Fraction(rng.randint(-1, 6), rng.randint(1, 3))
            told = drain(row, basin, place, pair(number))
            own = fraction(row[basin])
            if told is None:
                self.assertGreater(bound(added(row, basin, -own), place), number)
                seen.add(None)
                continue
            least = fraction(told)
            self.assertTrue(0 <= least <= own)
            self.assertLessEqual(bound(added(row, basin, -least), place), number)
            if least > 0:
                self.assertGreater(bound(added(row, basin, -least * Fraction(999, 1000)), place), number)
            self.assertEqual(told, pair(least))
            seen.add((least == 0, least == own))
        self.assertGreaterEqual(len(seen), 4)

    def test_by_hand(self):
        row = Row((1, 1, 1, 1), (0, 0, 2, 2))
        self.assertIsNone(drain(row, 3, 2, 1))
        self.assertEqual(drain(row, 3, 1, (3, 4)), (1, 1))
        self.assertEqual(drain(row, 3, 1, 5), (0, 1))
        self.assertEqual(drain(row, 3, 4, 2), (2, 1))
        self.assertIsNone(drain(row, 3, 4, (19, 10)))
        self.assertIsNone(drain(row, 0, 0, -1))


class SharedOut(unittest.TestCase):
    def test_several_places(self):
        rng = random.Random(8)
        seen = set()
        for _ in range(120):
            row = random_row(rng, rng.randint(1, 6), locked=0.25)
            places = rng.sample(range(len(row) + 1), rng.randint(0, min(3, len(row) + 1)))
            caps = {place: pair(bound(row, place) + Fraction(rng.randint(0, 6), 2)) for place in places}
            told = share_out(row, caps)
            self.assertIsInstance(told, list)
            for basin, volume in enumerate(told):
                found = [room_by_lines(row, basin, place, fraction(cap)) for place, cap in caps.items()]
                ends = [greatest for greatest in found if greatest is not None]
                self.assertEqual(volume, pair(min(ends)) if ends else None)
                seen.add((len(places), volume is None))
        self.assertGreaterEqual(len(seen), 6)

    def test_by_hand(self):
        row = Row((1, 1, 1, 1), (0, 0, 2, 2))
        self.assertEqual(share_out(row, {}), [None] * 4)
        self.assertEqual(share_out(row, {0: 0}), [None] * 4)
        self.assertEqual(share_out(row, {4: 5, 1: 2}), [(1, 1)] * 4)
        self.assertEqual(share_out(Row((1, 1, 1), (0, 0, 2), [2]), {1: 1, 2: 3}), [(1, 1), (2, 1), None])

    def test_one_that_is_passed_already(self):
        row = Row((1, 1, 1, 1), (0, 0, 2, 2))
        self.assertRaises(NoOrder, share_out, row, {4: 3})
        self.assertRaises(NoOrder, share_out, row, {0: 0, 1: (1, 2), 4: 9})

    def test_which_error_comes_first(self):
        row = Row((1, 1, 1, 1), (0, 0, 2, 2))
        for caps in (None, [], [(1, 1)], 3, ((1, 2),)):
            self.assertRaises(BadNumber, share_out, row, caps)
        for place in (-1, 5, True, None, "1", (1, 1)):
            self.assertRaises(BadNumber, share_out, row, {3: 0, place: 9})
            self.assertRaises(BadNumber, share_out, row, {place: None, 3: 0})
        self.assertRaises(NoOrder, share_out, row, {3: None, 1: 0})
        self.assertRaises(BadNumber, share_out, row, {3: 0, 1: None})
        for number in (None, True, "1", (1, 0), 1.0):
            self.assertRaises(BadNumber, share_out, row, {4: number})

    def test_nothing_is_changed(self):
        row, caps = Row((1, 1), (0, 2)), {1: 4, 0: (2, 4)}
        share_out(row, caps).append(None)
        self.assertEqual((row, caps, list(caps)), (Row((1, 1), (0, 2)), {1: 4, 0: (2, 4)}, [1, 0]))
        self.assertEqual(share_out(row, caps), [(4, 1), (6, 1)])


class Evidence(unittest.TestCase):
    def test_spoilt(self):
        row = Row((1, 1, 1, 1), (0, 0, 2, 2))
        told = room(row, 3, 1, 2)
        self.assertEqual(told, Room((4, 1), 0, 4))
        self.assertTrue(told.shows(row, 3, 1, 2))
        for volume in ((3, 1), (5, 1), (8, 2), (-4, 1), (4, 0), (0, 1), (-4, -1)):
            self.assertFalse(Room(volume, 0, 4).shows(row, 3, 1, 2), volume)
        for one, other in ((0, 3), (1, 4), (1, 1), (4, 0), (0, 5), (-1, 4), (2, 4), (0, 1), (0, 0)):
            self.assertFalse(Room((4, 1), one, other).shows(row, 3, 1, 2), (one, other))
        self.assertFalse(told.shows(row, 3, 1, 3))
        self.assertFalse(told.shows(row, 3, 1, (1, 2)))
        self.assertFalse(told.shows(row, 3, 2, 2))
        self.assertFalse(told.shows(row, 3, 0, 2))
        told.volume = (8, 1)
        self.assertTrue(told.shows(row, 3, 1, 3))

    def test_pairs_of_points_that_leave_more_room(self):
        seen = 0
        for rng, row, basin, place in cases(9, 80):
            number = bound(row, place) + rng.randint(0, 2)
            greatest = room_by_lines(row, basin, place, number)
            for one, other, level in lines(row, place):
                counts = share(row, one, other, place, basin)
                if counts > 0:
                    volume = (number - level) / counts
                    told = Room(pair(volume), one, other)
                    self.assertIs(told.shows(row, basin, place, pair(number)), volume == greatest)
                    seen += volume != greatest
        self.assertGreater(seen, 50)

    def test_what_is_passed_already(self):
        # With less than nothing added, the straight line would give the number.
        row = Row((1, 1, 1, 1), (0, 0, 2, 2))
        self.assertFalse(Room((-2, 1), 0, 4).shows(row, 3, 1, (1, 2)))
        self.assertFalse(Room((-1, 1), 0, 4).shows(row, 3, 4, 3))
        self.assertFalse(Room((0, 1), 0, 4).shows(row, 3, 4, 3))

    def test_equality_and_bool(self):
        self.assertEqual(Room((0, 1), 0, 1), Room((0, 1), 0, 1))
        for other in (Room((1, 1), 0, 1), Room((0, 1), 1, 1), Room((0, 1), 0, 2), ((0, 1), 0, 1), highest(Row((1,), (0,)), 0)):
            self.assertNotEqual(Room((0, 1), 0, 1), other)
        self.assertIs(bool(Room((0, 1), 0, 1)), True)


class Refused(unittest.TestCase):
    def calls(self, row, basin, place, number):
        return [lambda: room(row, basin, place, number), lambda: drain(row, basin, place, number),
                lambda: Room((0, 1), 0, 1).shows(row, basin, place, number)]

    def test_rows_first_of_all(self):
        for wrong in (None, (1, 1)):
            for call in self.calls(wrong, None, None, None):
                self.assertRaises(BadRow, call)
            self.assertRaises(BadRow, counted, wrong, None)
            self.assertRaises(BadRow, share_out, wrong, None)

    def test_basins_places_and_numbers(self):
        row = Row((1, 1, 1), (0, 0, 2))
        for wrong in ((-1, 1, 5), (3, 1, 5), (True, 1, 5), (None, 1, 5), ("1", 1, 5), (0, -1, 5), (0, 4, 5), (0, True, 5),
                      (0, None, 5), (0, 1, None), (0, 1, True), (0, 1, (1, 0)), (0, 1, "1"), (0, 1, 1.0)):
            for call in self.calls(row, *wrong):
                self.assertRaises(BadNumber, call)
        for place in (-1, 4, True, None, "1"):
            self.assertRaises(BadNumber, counted, row, place)

    def test_no_order_comes_last(self):
        row = Row((1, 1, 1), (0, 0, 2))
        self.assertRaises(BadNumber, room, row, 3, 3, 0)
        self.assertRaises(BadNumber, room, row, 0, 4, 0)
        self.assertRaises(NoOrder, room, row, 0, 3, 0)
