"""Point [17], and the conventions [1] for its evidence."""

import random
import unittest
from fractions import Fraction

from tests.brute import after, all_orders, fraction, pair, random_order, random_row
from weirlines.errors import BadNumber, BadOrder, BadRow, BadWeir
from weirlines.making import best
from weirlines.rows import Row, behind
from weirlines.shapes import Dominant, Less, More, Rivals, judge_dominant, judge_more

SHAPES = ("any", "rising", "falling")


def corners(areas, shape, locks=()):
    """The rows that are the corners of a shape, in order."""
    many = len(areas)
    full = {"any": lambda basin, at: Fraction(int(at == basin), areas[at]), "rising": lambda basin, at: int(at >= basin),
            "falling": lambda basin, at: int(at <= basin)}[shape]
    return [Row(areas, tuple(pair(full(basin, at) * areas[at]) for at in range(many)), locks) for basin in range(many)]


def first_water(row, order, place):
    return sum(after(row, order)[:place], Fraction(0))


def gains(areas, one, other, place, shape, locks=()):
    return [first_water(row, one, place) - first_water(row, other, place) for row in corners(areas, shape, locks)]


def row_of_shape(rng, areas, shape):
    """A row of a shape, drawn by its heights."""
    heights = [Fraction(rng.randint(0, 6), rng.randint(1, 3)) for _ in areas]
    if shape != "any":
        heights.sort(reverse=shape == "falling")
    return Row(areas, tuple(pair(height * area) for height, area in zip(heights, areas)))


class Judging(unittest.TestCase):
    def test_corners_of_all_shapes_and_places(self):
        rng = random.Random(1)
        seen = set()
        for _ in range(120):
            row = random_row(rng, rng.randint(1, 5), locked=0.15)
            one, other = random_order(rng, row, rng.randint(0, 5)), random_order(rng, row, rng.randint(0, 5))
            for shape in SHAPES:
                for place in range(len(row) + 1):
                    told = judge_more(row.areas, one, other, place, shape, locks=row.locks)
                    found = gains(row.areas, one, other, place, shape, row.locks)
                    less = [corner for corner, gain in enumerate(found) if gain < 0]
                    self.assertEqual(told, Less(less[0]) if less else More([pair(gain) for gain in found]))
                    self.assertIs(bool(told), not less)
                    self.assertTrue(told.shows(row.areas, one, other, place, shape, locks=row.locks))
                    seen.add((shape, less[0] if less else None))
        self.assertGreater(len(seen), 10)

    def test_any_is_the_shape_that_is_not_told(self):
        rng = random.Random(2)
        for _ in range(30):
            row = random_row(rng, 4)
            one, other = random_order(rng, row, 4), random_order(rng, row, 3)
            told = judge_more(row.areas, one, other, 2)
            self.assertEqual(told, judge_more(row.areas, one, other, 2, "any"))
            self.assertTrue(told.shows(row.areas, one, other, 2))

    def test_drawn_rows(self):
        rng = random.Random(3)
        seen = {}
        for _ in range(400):
            shape = rng.choice(SHAPES)
            row = random_row(rng, rng.randint(2, 4), most_area=3)
            one, other = random_order(rng, row, rng.randint(0, 4)), random_order(rng, row, rng.randint(0, 3))
            place = rng.randint(1, len(row))
            told = judge_more(row.areas, one, other, place, shape)
            seen[shape, bool(told)] = True
            if told:
                for _ in range(6):
                    drawn = row_of_shape(rng, row.areas, shape)
                    self.assertGreaterEqual(first_water(drawn, one, place), first_water(drawn, other, place))
            else:
                corner = corners(row.areas, shape)[told.corner]
                self.assertLess(first_water(corner, one, place), first_water(corner, other, place))
        self.assertEqual(len(seen), 6)

    def test_gains_are_a_list_of_pairs(self):
        told = judge_more((1, 1, 1), [2, 1], [1, 2], 1, "rising")
        self.assertEqual(told.gains, [(0, 1), (0, 1), (1, 4)])
        self.assertEqual(judge_more((1, 1, 1), [2, 1], [1, 2], 1), Less(1))
        self.assertEqual(judge_more((1, 1, 1), [1, 2], [2, 1], 1, "falling"), More([(0, 1), (1, 4), (0, 1)]))

    def test_ends_and_one_basin(self):
        for shape in SHAPES:
            self.assertEqual(judge_more((2, 3), [1], [], 0, shape), More([(0, 1), (0, 1)]))
            self.assertEqual(judge_more((2, 3), [], (1,), 2, shape), More([(0, 1), (0, 1)]))
            self.assertEqual(judge_more((5,), [], [], 1, shape), More([(0, 1)]))
        self.assertEqual(judge_more((2, 3), [1], [], 1, "rising"), More([(0, 1), (6, 5)]))
        self.assertEqual(judge_more((2, 3), [1], [], 1, "falling"), Less(0))
        self.assertEqual(judge_more((2, 3), [1], [], 1, "any"), Less(0))

    def test_locks(self):
        told = judge_more((1, 1, 1), [2], [], 2, "rising", locks=[1])
        self.assertEqual(told.gains, [(0, 1), (0, 1), (1, 2)])

    def test_long_orders(self):
        rng = random.Random(4)
        areas = tuple(rng.randint(1, 1000) for _ in range(24))
        one, other = [rng.randint(1, 23) for _ in range(500)], [rng.randint(1, 23) for _ in range(500)]
        for shape in SHAPES:
            told = judge_more(areas, one, other, 12, shape)
            row = corners(areas, shape)[23 if told else told.corner]
            gain = fraction(behind(row, one).sums()[12]) - fraction(behind(row, other).sums()[12])
            if told:
                self.assertEqual(told.gains[23], pair(gain))
            self.assertIs(bool(told), gain >= 0)
        self.assertTrue(judge_more((1, 2, 1), [1, 2] * 10000, [1, 2] * 10000, 1))


def amounts_of_all(areas, place, many, shape, locks):
    """What each order of at most so many openings brings at each corner."""
    rows = corners(areas, shape, locks)
    found = {}
    for long in range(many + 1):
        for order in all_orders(rows[0], long):
            found[tuple(order)] = [first_water(row, order, place) for row in rows]
    return found


class Dominating(unittest.TestCase):
    def test_against_all_orders(self):
        rng = random.Random(5)
        seen = set()
        for _ in range(50):
            row = random_row(rng, rng.randint(1, 4), most_area=3, locked=0.1)
            many = rng.randint(0, 4)
            shape = rng.choice(SHAPES)
            place = rng.randint(0, len(row))
            told = judge_dominant(row.areas, place, many, shape, locks=row.locks)
            found = amounts_of_all(row.areas, place, many, shape, row.locks)
            most = [max(amounts[corner] for amounts in found.values()) for corner in range(len(row))]
            dominant = [order for order, amounts in found.items() if amounts == most]
            if dominant:
                self.assertIsInstance(told, Dominant)
                self.assertIn(tuple(told.order), dominant)
                for order in dominant:
                    self.assertTrue(Dominant(order).shows(row.areas, place, many, shape, locks=row.locks))
            else:
                self.assertEqual(told, Rivals([pair(number) for number in most]))
            self.assertIs(bool(told), bool(dominant))
            self.assertTrue(told.shows(row.areas, place, many, shape, locks=row.locks))
            for order in list(found)[:30]:
                shown = Dominant(order).shows(row.areas, place, many, shape, locks=row.locks)
                self.assertIs(shown, order in dominant)
            seen.add((shape, bool(told)))
        self.assertGreaterEqual(len(seen), 5)

    def test_none_and_eight(self):
        for shape in SHAPES:
            self.assertEqual(judge_dominant((1, 2, 1), 1, 0, shape), Dominant([]))
        told = judge_dominant((1, 1, 1), 1, 8, "rising")
        self.assertEqual(told.order, [2, 1] * 4)
        told = judge_dominant((1, 1, 1, 1), 2, 8)
        self.assertIsInstance(told, Rivals)
        self.assertTrue(told.shows((1, 1, 1, 1), 2, 8))
        self.assertFalse(told.shows((1, 1, 1, 1), 2, 7))

    def test_greatest_amounts_are_those_of_few_openings(self):
        rng = random.Random(6)
        for _ in range(25):
            row = random_row(rng, rng.randint(1, 5), locked=0.1)
            many = rng.randint(0, 6)
            for shape in SHAPES:
                place = rng.randint(0, len(row))
                told = judge_dominant(row.areas, place, many, shape, locks=row.locks)
                most = [best(corner, place, many).number for corner in corners(row.areas, shape, row.locks)]
                if told:
                    self.assertEqual([pair(first_water(corner, told.order, place))
                                      for corner in corners(row.areas, shape, row.locks)], most)
                else:
                    self.assertEqual(told.numbers, most)

    def test_any_is_the_shape_that_is_not_told(self):
        told = judge_dominant((1, 2, 1), 1, 3)
        self.assertEqual(told, judge_dominant((1, 2, 1), 1, 3, "any"))
        self.assertTrue(told.shows((1, 2, 1), 1, 3))

    def test_falling_rows_are_best_left_alone(self):
        self.assertEqual(judge_dominant((1, 3, 2, 1), 2, 8, "falling"), Dominant([]))

    def test_many_basins(self):
        told = judge_dominant((1,) * 24, 1, 8, "rising")
        self.assertTrue(told.shows((1,) * 24, 1, 8, "rising"))


class Evidence(unittest.TestCase):
    def test_spoilt_more_and_less(self):
        areas, one, other = (1, 1, 1), [2, 1], [1, 2]
        found = [(0, 1), (0, 1), (1, 4)]
        self.assertTrue(More(found).shows(areas, one, other, 1, "rising"))
        for spoilt in ([], found[:2], found + [(0, 1)], [(0, 1), (0, 1), (1, 2)], [(0, 2), (0, 1), (1, 4)],
                       [(0, 1), (0, 1), (-1, 4)], [(0, 1), (0, 1), (2, 8)], [(0, 1), (0, 1), (0, 0)]):
            self.assertFalse(More(spoilt).shows(areas, one, other, 1, "rising"), spoilt)
        self.assertFalse(More(found).shows(areas, one, other, 2, "rising"))
        self.assertFalse(More(found).shows(areas, one, other, 1, "any"))
        self.assertFalse(More(found).shows(areas, one, other, 1))
        self.assertFalse(Less(2).shows(areas, one, other, 1, "rising"))
        self.assertTrue(Less(1).shows(areas, one, other, 1))
        for corner in (0, 2, 3, -1, -2, -3, 10 ** 9):
            self.assertFalse(Less(corner).shows(areas, one, other, 1), corner)
        gain = [pair(number) for number in gains(areas, one, other, 1, "any")]
        self.assertFalse(More(gain).shows(areas, one, other, 1))

    def test_only_the_first_corner(self):
        # Both the first and the second corner have less here.
        found = gains((1, 1), [1], [], 1, "falling")
        self.assertEqual([number < 0 for number in found], [True, False])
        found = gains((1, 1, 1), [1, 2, 1], [], 1, "falling")
        self.assertEqual([number < 0 for number in found], [True, True, False])
        self.assertTrue(Less(0).shows((1, 1, 1), [1, 2, 1], [], 1, "falling"))
        self.assertFalse(Less(1).shows((1, 1, 1), [1, 2, 1], [], 1, "falling"))

    def test_spoilt_dominant(self):
        areas = (1, 1, 1)
        self.assertTrue(Dominant([2, 1]).shows(areas, 1, 2, "rising"))
        for order in ([], [1], [1, 2], [2, 1, 2], [2, 2, 1], [2, 1, 1], [1, 2, 1], [1] * 30):
            self.assertFalse(Dominant(order).shows(areas, 1, 2, "rising"), order)
        self.assertFalse(Dominant([2, 1]).shows(areas, 2, 2, "falling"))
        self.assertTrue(Dominant([]).shows(areas, 2, 2, "falling"))
        self.assertFalse(Dominant([2, 1, 2, 1]).shows(areas, 1, 3, "rising"))
        self.assertFalse(Dominant([2, 1]).shows(areas, 1, 2, "any"))

    def test_spoilt_rivals(self):
        told = judge_dominant((1, 1, 1), 1, 3)
        self.assertEqual(told, Rivals([(1, 1), (1, 2), (1, 4)]))
        for spoilt in ([], told.numbers[:2], told.numbers + [(0, 1)], [(1, 1), (1, 2), (1, 3)], [(1, 1), (2, 4), (1, 4)],
                       [(1, 1), (1, 2), (-1, 4)]):
            self.assertFalse(Rivals(spoilt).shows((1, 1, 1), 1, 3), spoilt)
        self.assertFalse(Rivals([(3, 1), (2, 1), (5, 4)]).shows((1, 1, 1), 1, 3, "rising"))
        # The greatest amounts that one order brings all.
        rising = [pair(first_water(row, [2, 1], 1)) for row in corners((1, 1, 1), "rising")]
        self.assertFalse(Rivals(rising).shows((1, 1, 1), 1, 2, "rising"))

    def test_attributes(self):
        for kind, name, told in ((More, "gains", (0, 1)), (Rivals, "numbers", (0, 1)), (Dominant, "order", 1)):
            given = [told]
            made = kind(given)
            given.append(None)
            self.assertEqual(getattr(made, name), [told])
            self.assertEqual(getattr(kind((told,)), name), [told])
        told = Less(1)
        told.corner = 0
        self.assertTrue(told.shows((1, 1), [1], [], 1))

    def test_equality_and_bool(self):
        self.assertEqual(More([(1, 2)]), More(((1, 2),)))
        self.assertNotEqual(More([]), Rivals([]))
        self.assertNotEqual(Dominant([]), More([]))
        self.assertNotEqual(Dominant([1]), Dominant([2]))
        self.assertNotEqual(Rivals([(1, 2)]), Rivals([(1, 3)]))
        self.assertNotEqual(More([(1, 2)]), More([(1, 3)]))
        self.assertNotEqual(Less(1), Less(2))
        self.assertNotEqual(Rivals([]), More([]))
        self.assertNotEqual(Less(0), 0)
        self.assertEqual(Less(0), Less(0))
        self.assertEqual([bool(told) for told in (More([]), Less(0), Dominant([]), Rivals([]))],
                         [True, False, True, False])


class Refused(unittest.TestCase):
    def all_calls(self, areas, one, other, place, many, shape, locks):
        more = [lambda: judge_more(areas, one, other, place, shape, locks=locks),
                lambda: More([]).shows(areas, one, other, place, shape, locks=locks),
                lambda: Less(0).shows(areas, one, other, place, shape, locks=locks)]
        dominant = [lambda: judge_dominant(areas, place, many, shape, locks=locks),
                    lambda: Dominant([9]).shows(areas, place, many, shape, locks=locks),
                    lambda: Rivals([]).shows(areas, place, many, shape, locks=locks)]
        return more, dominant

    def refuse(self, error, calls):
        for call in calls:
            with self.assertRaises(error) as caught:
                call()
            yield caught.exception

    def test_areas_first(self):
        for areas in (None, [1], (), (0, 1), (True,)):
            more, dominant = self.all_calls(areas, None, None, None, None, "none", [7])
            self.assertEqual(len(list(self.refuse(BadRow, more + dominant))), 6)

    def test_then_weirs(self):
        more, dominant = self.all_calls((1, 1), None, None, None, None, "none", [2])
        self.assertEqual([told.number for told in self.refuse(BadWeir, more + dominant)], [2] * 6)

    def test_then_shapes(self):
        for shape in ("none", "", None, 0, ["any"], ("any",), True, "Any"):
            more, dominant = self.all_calls((1, 1), None, None, None, None, shape, [1])
            self.assertEqual(len(list(self.refuse(BadNumber, more + dominant))), 6)
            more, dominant = self.all_calls((1, 1), [], [], 1, 1, shape, ())
            self.assertEqual(len(list(self.refuse(BadNumber, more + dominant))), 6)

    def test_orders_ahead_of_places(self):
        for one, other, place in ((None, None, None), ([1, 2], [True], 1), ([1, 1, 1, 3], None, 3), ([1] * 20001, 1, None),
                                  ([1], [1, 0], 1), ((), "1", None), ((1,), [True], 0)):
            more, _ = self.all_calls((1, 1), one, other, None, None, "rising", ())
            self.assertEqual([told.place for told in self.refuse(BadOrder, more)], [place] * 3)

    def test_places(self):
        for place in (-1, 3, True, None, "1", (1, 1)):
            for many in (None, 1):
                more, dominant = self.all_calls((1, 1), [1], [], place, many, "falling", ())
                self.assertEqual(len(list(self.refuse(BadNumber, more + dominant))), 6)

    def test_numbers_of_openings(self):
        for many in (-1, 9, True, None, "1", (1, 1)):
            _, dominant = self.all_calls((1, 1), [1], [], 1, many, "any", ())
            self.assertEqual(len(list(self.refuse(BadNumber, dominant))), 3)

    def test_orders_of_evidence(self):
        for order, place in (([1, 2], 1), ([0], 0), ([1, 3, 9], 1), ([1] * 20001, None), ([-1], 0)):
            with self.assertRaises(BadOrder) as caught:
                Dominant(order).shows((1, 1, 1), 1, 8, locks=[2])
            self.assertEqual(caught.exception.place, place)
