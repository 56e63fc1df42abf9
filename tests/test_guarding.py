"""Point [19], and the conventions [1] for its evidence."""

import random
import unittest
from fractions import Fraction
from itertools import combinations

from tests.brute import chord_bound, fraction, pair, random_row
from weirlines.bounds import highest
from weirlines.errors import BadNumber, BadRow, BadWeir
from weirlines.guarding import Guard, guards, loosened
from weirlines.rows import Row


def locked(row, more):
    return Row(row.areas, row.volumes, [*row.locks, *more])


def fewer_bounds(row, choices, place, many):
    return {chosen: pair(chord_bound(locked(row, chosen), place, 1))
            for few in range(many) for chosen in combinations(choices, few)}


def random_choices(rng, row):
    return [weir for weir in row.weirs() if rng.random() < 0.6]


class Guards(unittest.TestCase):
    def test_against_all_choices(self):
        rng = random.Random(1)
        seen = set()
        for _ in range(250):
            row = random_row(rng, rng.randint(1, 7), locked=0.15)
            choices = random_choices(rng, row)
            place = rng.randint(0, len(row))
            number = pair(chord_bound(locked(row, choices), place, 1)
                          + rng.choice((0, 0, Fraction(-1, 9), Fraction(1, 9), 1, 4)))
            told = guards(row, choices, place, number)
            working = [chosen for many in range(len(choices) + 1) for chosen in combinations(choices, many)
                       if chord_bound(locked(row, chosen), place, 1) <= fraction(number)]
            if not working:
                self.assertIsNone(told)
                seen.add(None)
                continue
            self.assertIsInstance(told, Guard)
            self.assertIsInstance(told.locks, list)
            self.assertEqual(len(told.locks), len(working[0]))
            self.assertIn(tuple(told.locks), working)
            self.assertEqual(told.against, fewer_bounds(row, choices, place, len(told.locks)))
            self.assertTrue(all(fraction(bound) > fraction(number) for bound in told.against.values()))
            self.assertTrue(told.shows(row, choices, place, number))
            self.assertLessEqual(len(told.locks), 2)
            for chosen in working:
                other = Guard(chosen, told.against)
                self.assertIs(other.shows(row, choices, place, number), len(chosen) == len(told.locks))
            seen.add(len(told.locks))
        self.assertEqual(seen, {None, 0, 1, 2})

    def test_by_hand(self):
        row = Row((1, 1, 1, 1), (0, 1, 0, 8))
        self.assertEqual(guards(row, [1, 3], 2, 2), Guard([3], {(): (9, 2)}))
        self.assertEqual(guards(row, [1, 3], 2, (9, 2)), Guard([], {}))
        self.assertIsNone(guards(row, [1], 2, 1))
        self.assertEqual(guards(row, [], 2, 5).locks, [])
        self.assertIsNone(guards(row, [], 2, 4))
        wide = Row((1, 1, 1, 1), (5, 0, 0, 5))
        self.assertEqual(guards(wide, (1, 2, 3), 2, 5), Guard([2], {(): (20, 3)}))
        self.assertEqual(guards(wide, (1, 3), 2, 5), Guard([3], {(): (20, 3)}))
        self.assertEqual(guards(wide, (1, 3), 2, 7), Guard([], {}))

    def test_two_locks(self):
        # Water comes from behind, but for the second lock; what is ahead keeps less, but for the first one.
        row = Row((1, 1, 1, 1, 1, 1), (0, 0, 0, 2, 2, 9))
        told = guards(row, [1, 2, 5], 3, (3, 2))
        self.assertEqual(told, Guard([2, 5], {(): (13, 2), (1,): (26, 5), (2,): (13, 4), (5,): (12, 5)}))
        self.assertEqual(guards(row, (1, 5), 3, 2), Guard([1, 5], {(): (13, 2), (1,): (26, 5), (5,): (12, 5)}))
        self.assertIsNone(guards(row, (1, 5), 3, (3, 2)))

    def test_tuples_of_choices(self):
        row = Row((1, 1, 1, 1), (0, 1, 0, 8))
        told = guards(row, (1, 3), 2, 2)
        self.assertEqual(told, guards(row, [1, 3], 2, 2))
        self.assertTrue(told.shows(row, (1, 3), 2, 2))
        self.assertTrue(told.shows(row, [1, 3], 2, (2, 1)))

    def test_more_choices_and_greater_numbers(self):
        rng = random.Random(2)
        for _ in range(80):
            row = random_row(rng, rng.randint(2, 7), locked=0.1)
            place = rng.randint(0, len(row))
            few = random_choices(rng, row)
            number = fraction(highest(row, place).number) - Fraction(rng.randint(0, 4), 3)
            one, all_weirs = guards(row, few, place, pair(number)), guards(row, row.weirs(), place, pair(number))
            more = guards(row, few, place, pair(number + 1))
            if one is not None:
                self.assertLessEqual(len(all_weirs.locks), len(one.locks))
                self.assertLessEqual(len(more.locks), len(one.locks))

    def test_many_basins(self):
        rng = random.Random(3)
        row = random_row(rng, 24, most_area=1000)
        number = row.sums()[12]
        told = guards(row, [weir for weir in range(1, 24) if weir != 12], 12, pair(fraction(number) + 1))
        if told is not None:
            self.assertTrue(told.shows(row, [weir for weir in range(1, 24) if weir != 12], 12,
                                       pair(fraction(number) + 1)))
        self.assertEqual(len(guards(row, list(range(1, 24)), 12, number).locks), 1)


class Loosened(unittest.TestCase):
    def plainly(self, row, place, number):
        taken = []
        for lock in row.locks:
            left = [other for other in row.locks if other not in (*taken, lock)]
            if chord_bound(Row(row.areas, row.volumes, left), place, 1) <= fraction(number):
                taken.append(lock)
        return taken

    def test_one_after_the_other(self):
        rng = random.Random(4)
        seen = set()
        for _ in range(250):
            row = random_row(rng, rng.randint(1, 7), locked=0.6)
            place = rng.randint(0, len(row))
            number = pair(chord_bound(row, place, 1) + Fraction(rng.randint(-1, 3), rng.randint(1, 3)))
            told = loosened(row, place, number)
            self.assertIsInstance(told, list)
            self.assertEqual(told, self.plainly(row, place, number))
            seen.add((len(told) == 0, len(told) == len(row.locks)))
        self.assertEqual(len(seen), 4)

    def test_by_hand(self):
        self.assertEqual(loosened(Row((1, 1, 1), (0, 0, 3), [1, 2]), 1, 1), [1, 2])
        self.assertEqual(loosened(Row((1, 1, 1), (0, 0, 3), [1, 2]), 1, 0), [1])
        self.assertEqual(loosened(Row((1, 1, 1), (0, 0, 3), [1, 2]), 1, -1), [])
        self.assertEqual(loosened(Row((1, 1, 1), (0, 0, 3)), 1, 5), [])
        self.assertEqual(loosened(Row((1,), (3,)), 1, 5), [])

    def test_greater_numbers(self):
        rng = random.Random(5)
        for _ in range(60):
            row = random_row(rng, 6, locked=0.6)
            number = highest(row, 3).number
            self.assertLessEqual(set(row.locks) - set(loosened(row, 3, pair(fraction(number) + 100))), set())


class Evidence(unittest.TestCase):
    def test_spoilt(self):
        row, choices = Row((1, 1, 1, 1), (0, 1, 0, 8)), [1, 3]
        right = {(): (9, 2)}
        self.assertTrue(Guard([3], right).shows(row, choices, 2, 2))
        for locks in ([], [1], [2], [1, 3], [3, 3], [4], [0], [-1], [1, 2, 3], [3, 1]):
            self.assertFalse(Guard(locks, right).shows(row, choices, 2, 2), locks)
        for against in ({}, {(): (9, 1)}, {(): (18, 4)}, {(): (9, 2), (1,): (9, 2)}, {(1,): (9, 2)}, {(3,): (1, 1)},
                        {(): (9, 2), (2,): (1, 1)}, {(): (-9, 2)}, {(): (9, 0)}):
            self.assertFalse(Guard([3], against).shows(row, choices, 2, 2), against)
        self.assertFalse(Guard([3], right).shows(row, choices, 2, (9, 2)))
        self.assertFalse(Guard([3], right).shows(row, choices, 2, 0))
        self.assertFalse(Guard([3], right).shows(row, [1], 2, 2))
        self.assertFalse(Guard([], {}).shows(row, choices, 2, 2))
        self.assertTrue(Guard([], {}).shows(row, choices, 2, 5))
        self.assertFalse(Guard([1], {(): (9, 2)}).shows(row, choices, 2, 5))

    def test_two_locks_spoilt(self):
        rng = random.Random(6)
        found = 0
        while found < 5:
            row = random_row(rng, 6)
            number = highest(locked(row, [2, 4]), 3).number
            told = guards(row, [2, 4], 3, number)
            if len(told.locks) < 2:
                continue
            found += 1
            self.assertEqual(sorted(told.against), [(), (2,), (4,)])
            self.assertFalse(Guard([4, 2], told.against).shows(row, [2, 4], 3, number))
            for chosen in told.against:
                less = {other: told.against[other] for other in told.against if other != chosen}
                self.assertFalse(Guard([2, 4], less).shows(row, [2, 4], 3, number))
                self.assertFalse(Guard([2, 4], {**told.against, chosen: (99, 1)}).shows(row, [2, 4], 3, number))
            self.assertFalse(Guard([2, 4], {**told.against, (2, 4): number}).shows(row, [2, 4], 3, number))

    def test_attributes(self):
        locks, against = [3], {(): (9, 2)}
        told = Guard(locks, against)
        locks.append(4)
        against[(1,)] = (0, 1)
        self.assertEqual((told.locks, told.against), ([3], {(): (9, 2)}))
        self.assertEqual(Guard((3,), {(): (9, 2)}), told)
        self.assertNotEqual(Guard([3], {}), told)
        self.assertNotEqual(Guard([], {(): (9, 2)}), told)
        self.assertNotEqual(told, [3])
        self.assertIs(bool(Guard([], {})), True)
        told.locks.append(1)
        self.assertFalse(told.shows(Row((1, 1, 1, 1), (0, 1, 0, 8)), [1, 3], 2, 2))


class Refused(unittest.TestCase):
    def calls(self, row, choices, place, number):
        return [lambda: guards(row, choices, place, number), lambda: Guard([], {}).shows(row, choices, place, number)]

    def test_rows_first_of_all(self):
        for wrong in (None, (1, 1)):
            for call in self.calls(wrong, None, None, None):
                self.assertRaises(BadRow, call)
            self.assertRaises(BadRow, loosened, wrong, None, None)

    def test_choices_then(self):
        row = Row((1, 1, 1, 1), (0, 1, 0, 8), [2])
        for choices, number in ((None, None), ("13", None), ({1: 3}, None), ([1, 2], 2), ([1, 1], 1), ([3, 1, None], 1),
                                ([0], 0), ([4], 4), ([-1, 1], -1), ([1, True], None), ((True,), None), ([1, "3"], None),
                                ([1, 3, 3], 3), ([1, 9, None], 9)):
            for call in self.calls(row, choices, None, None):
                with self.assertRaises(BadWeir) as caught:
                    call()
                self.assertEqual(caught.exception.number, number)

    def test_places_and_numbers(self):
        row = Row((1, 1), (0, 1))
        for place in (-1, 3, True, None, "1"):
            for call in self.calls(row, [1], place, 1):
                self.assertRaises(BadNumber, call)
            self.assertRaises(BadNumber, loosened, row, place, 1)
        for number in (True, None, "1", (1, 0), (1,), 1.0, [1, 2]):
            for call in self.calls(row, [1], 1, number):
                self.assertRaises(BadNumber, call)
            self.assertRaises(BadNumber, loosened, row, 1, number)
