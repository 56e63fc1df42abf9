"""Point [18], and the conventions [1] for its evidence."""

import random
import unittest
from fractions import Fraction

from tests.brute import after as plain_after
from tests.brute import coast_after, fraction, pair, random_row, turned_about
from weirlines.errors import BadNumber, BadOrder, BadRow, BadWeir, NoOrder
from weirlines.rows import Row, behind
from weirlines.seas import Coast, Cycle, after, cycle, far_bounds, inflow, is_washed

SEAS = ((None, None), (2, None), (None, (7, 2)), ((1, 2), 3), (0, 0), ((4, 3), (4, 3)))


def weirs(coast):
    return [weir for weir in range(len(coast.row) + 1) if weir in coast]


def random_coast(rng, many, seas=None, most_area=4):
    left, right = seas if seas is not None else rng.choice(SEAS)
    return Coast(random_row(rng, many, most_area=most_area), left, right)


def coast_order(rng, coast, many):
    found = weirs(coast)
    return [rng.choice(found) for _ in range(many)] if found else []


def washing_order(rng, coast, more):
    """An order that opens all weirs, but perhaps one that need not be opened, and some more."""
    found = weirs(coast)
    if len(found) == len(coast.row) + 1 and rng.random() < 0.4:
        found.remove(rng.choice(found))
    order = found + [rng.choice(found) for _ in range(more)]
    rng.shuffle(order)
    return order


def solved(coast, order):
    """The volumes that a round lets be, from equations with fractions."""
    many = len(coast.row)
    constant = coast_after(coast, order, [0] * many)[0]
    table = []
    for basin in range(many):
        unit = coast_after(coast, order, [int(at == basin) for at in range(many)])[0]
        table.append([late - start for late, start in zip(unit, constant)])
    rows = [[Fraction(int(at == basin)) - table[at][basin] for at in range(many)] + [constant[basin]]
            for basin in range(many)]
    for at in range(many):
        pivot = next(row for row in range(at, many) if rows[row][at] != 0)
        rows[at], rows[pivot] = rows[pivot], rows[at]
        rows[at] = [number / rows[at][at] for number in rows[at]]
        for row in range(many):
            if row != at:
                rows[row] = [own - rows[row][at] * other for own, other in zip(rows[row], rows[at])]
    return [row[-1] for row in rows]


class Coasts(unittest.TestCase):
    def test_attributes(self):
        row = Row((1, 2), (3, (4, 8)))
        coast = Coast(row, (6, 4), 0)
        self.assertEqual((coast.row, coast.left, coast.right), (row, (3, 2), (0, 1)))
        coast = Coast(row)
        self.assertEqual((coast.left, coast.right), (None, None))
        self.assertEqual((Coast(row, right=2).left, Coast(row, right=2).right), (None, (2, 1)))
        self.assertEqual((Coast(row, left=2).left, Coast(row, left=2).right), ((2, 1), None))

    def test_the_row_is_copied(self):
        row = Row((1, 2), (3, 4))
        coast = Coast(row, 1)
        row.volumes = ((9, 1), (9, 1))
        self.assertEqual(coast.row, Row((1, 2), (3, 4)))

    def test_weirs(self):
        for left, right in SEAS:
            for many in (1, 2, 5):
                coast = Coast(Row((1,) * many, (0,) * many), left, right)
                self.assertIs(0 in coast, left is not None)
                self.assertIs(many in coast, right is not None)
                for weir in range(1, many):
                    self.assertIn(weir, coast)
                for other in (-1, many + 1, True, False, None, "1", (1, 1), 1.0):
                    self.assertNotIn(other, coast)

    def test_equality(self):
        row = Row((1, 2), (3, 4))
        self.assertEqual(Coast(row, 1, (2, 4)), Coast(Row((1, 2), ((6, 2), 4)), (3, 3), (1, 2)))
        self.assertNotEqual(Coast(row, 1), Coast(row, None, 1))
        self.assertNotEqual(Coast(row, 1), Coast(row, 2))
        self.assertNotEqual(Coast(row, 1), Coast(row, 1, 1))
        self.assertNotEqual(Coast(row, 0), Coast(row))
        self.assertNotEqual(Coast(row), Coast(Row((1, 2), (3, 5))))
        self.assertNotEqual(Coast(row), row)
        self.assertNotEqual(row, Coast(row))

    def test_openings(self):
        coast = Coast(Row((1, 2, 3), (6, 0, 3)), 4, (1, 2))
        self.assertEqual(coast.opened(0), Coast(Row((1, 2, 3), (4, 0, 3)), 4, (1, 2)))
        self.assertEqual(coast.opened(3), Coast(Row((1, 2, 3), (6, 0, (3, 2))), 4, (1, 2)))
        self.assertEqual(coast.opened(1), Coast(Row((1, 2, 3), (2, 4, 3)), 4, (1, 2)))
        self.assertEqual(coast, Coast(Row((1, 2, 3), (6, 0, 3)), 4, (1, 2)))
        one = Coast(Row((5,), (1,)), 2, 3)
        self.assertEqual((one.opened(0).row.volumes, one.opened(1).row.volumes), (((10, 1),), ((15, 1),)))

    def test_refused_openings(self):
        for left, right in SEAS:
            coast = Coast(Row((1, 1), (0, 0)), left, right)
            for weir in (0, 2, -1, 3, True, False, None, "1"):
                if weir not in weirs(coast) or isinstance(weir, bool):
                    with self.assertRaises(BadWeir) as caught:
                        coast.opened(weir)
                    self.assertEqual(caught.exception.number, weir if type(weir) is int else None)


class Orders(unittest.TestCase):
    def test_after_and_inflow(self):
        rng = random.Random(1)
        for _ in range(200):
            coast = random_coast(rng, rng.randint(1, 5))
            order = coast_order(rng, coast, rng.randint(0, 10))
            volumes, flow = coast_after(coast, order)
            late = after(coast, order)
            self.assertIsInstance(late, Coast)
            self.assertEqual(late.row.volumes, tuple(pair(volume) for volume in volumes))
            self.assertEqual((late.row.areas, late.row.locks, late.left, late.right),
                             (coast.row.areas, (), coast.left, coast.right))
            self.assertEqual(inflow(coast, order), pair(flow))
            one_by_one = coast
            for weir in order:
                one_by_one = one_by_one.opened(weir)
            self.assertEqual(one_by_one, late)

    def test_weirs_between_are_those_of_the_row(self):
        rng = random.Random(2)
        for _ in range(40):
            coast = random_coast(rng, rng.randint(2, 6))
            order = [rng.randint(1, len(coast.row) - 1) for _ in range(8)]
            self.assertEqual(after(coast, order).row, behind(coast.row, order))
            self.assertEqual(inflow(coast, order), (0, 1))

    def test_without_a_sea_on_the_left_nothing_comes_in(self):
        coast = Coast(Row((1, 2), (9, 0)), None, 5)
        self.assertEqual(inflow(coast, [1, 2, 1]), (0, 1))
        self.assertEqual(inflow(Coast(Row((1, 2), (9, 0)), 3), (0,)), (-6, 1))
        self.assertEqual(inflow(Coast(Row((1, 2), (9, 0)), 3), [0, 1, 0]), (-4, 1))

    def test_seas_turned_about(self):
        rng = random.Random(3)
        for _ in range(60):
            coast = random_coast(rng, rng.randint(1, 5))
            order = coast_order(rng, coast, 8)
            other = Coast(turned_about(coast.row), coast.right, coast.left)
            back = [len(coast.row) - weir for weir in order]
            self.assertEqual(after(other, back).row, turned_about(after(coast, order).row))
            come = sum(fraction(volume) for volume in after(coast, order).row) - sum(map(fraction, coast.row))
            self.assertEqual(fraction(inflow(coast, order)) + fraction(inflow(other, back)), come)

    def test_sums_and_multiples(self):
        rng = random.Random(4)
        for _ in range(40):
            areas = tuple(rng.randint(1, 4) for _ in range(rng.randint(1, 5)))
            told = [[rng.randint(0, 5) for _ in areas] + [rng.randint(0, 5), rng.randint(0, 5)] for _ in range(2)]
            times = (rng.randint(0, 3), Fraction(rng.randint(0, 5), 3))
            mixed = [pair(times[0] * one + times[1] * other) for one, other in zip(*told)]
            coasts = [Coast(Row(areas, tuple(numbers[:-2])), *numbers[-2:]) for numbers in (*told, mixed)]
            order = coast_order(rng, coasts[0], 7)
            found = [[fraction(volume) for volume in after(coast, order).row] + [fraction(inflow(coast, order))]
                     for coast in coasts]
            self.assertEqual(found[2], [times[0] * one + times[1] * other for one, other in zip(*found[:2])])

    def test_long_orders_of_many_basins(self):
        rng = random.Random(5)
        coast = random_coast(rng, 24, ((3, 7), 5), most_area=1000)
        order = coast_order(rng, coast, 400)
        volumes, flow = coast_after(coast, order)
        self.assertEqual(after(coast, order).row.volumes, tuple(pair(volume) for volume in volumes))
        self.assertEqual(inflow(coast, order), pair(flow))
        self.assertEqual(len(after(coast, order * 50).row), 24)


class Washed(unittest.TestCase):
    def plainly(self, coast, order):
        many = len(coast.row)
        return all(all(weir in order for weir in range(basin + 1)) or
                   all(weir in order for weir in range(basin + 1, many + 1)) for basin in range(many))

    def test_against_each_basin(self):
        rng = random.Random(6)
        seen = set()
        for _ in range(400):
            coast = random_coast(rng, rng.randint(1, 4))
            order = coast_order(rng, coast, rng.randint(0, 8))
            told = is_washed(coast, order)
            self.assertIs(told, self.plainly(coast, order))
            seen.add((len(weirs(coast)) - len(coast.row), told))
        self.assertEqual(seen, {(-1, False), (0, True), (0, False), (1, True), (1, False)})

    def test_by_hand(self):
        row = Row((1, 1, 1), (0, 0, 0))
        self.assertTrue(is_washed(Coast(row, 1, 1), [3, 0, 1]))
        self.assertTrue(is_washed(Coast(row, 1, 1), (0, 1, 2)))
        self.assertTrue(is_washed(Coast(row, 1, 1), [1, 2, 3]))
        self.assertFalse(is_washed(Coast(row, 1, 1), [0, 3, 3]))
        self.assertFalse(is_washed(Coast(row), [1, 2]))
        self.assertFalse(is_washed(Coast(row, 1), []))
        self.assertTrue(is_washed(Coast(Row((1,), (0,)), None, 1), [1]))


class Cycles(unittest.TestCase):
    def test_against_equations(self):
        rng = random.Random(7)
        parted = 0
        for _ in range(120):
            coast = random_coast(rng, rng.randint(1, 5), rng.choice(SEAS[1:]), most_area=5)
            order = washing_order(rng, coast, rng.randint(0, 6))
            told = cycle(coast, order)
            self.assertIsInstance(told, Cycle)
            self.assertEqual(told.volumes, tuple(pair(volume) for volume in solved(coast, order)))
            start = Coast(Row(coast.row.areas, told.volumes), coast.left, coast.right)
            self.assertEqual(after(start, order), start)
            self.assertEqual(told.flow, inflow(start, order))
            self.assertTrue(told.shows(coast, order))
            parted += len(set(order)) == len(coast.row)
        self.assertGreater(parted, 20)

    def test_volumes_do_not_matter(self):
        order = [0, 1, 2, 1]
        told = cycle(Coast(Row((1, 2), (0, 0)), 1, 4), order)
        self.assertEqual(told, cycle(Coast(Row((1, 2), (100, 7)), 1, 4), order))

    def test_rounds_come_nearer(self):
        rng = random.Random(8)
        for _ in range(20):
            coast = random_coast(rng, rng.randint(1, 4), rng.choice(SEAS[1:]), most_area=3)
            order = washing_order(rng, coast, 3)
            aim = [fraction(volume) for volume in cycle(coast, order).volumes]
            late = coast
            offs = []
            for _ in range(90):
                offs.append(max(abs(fraction(volume) / area - want / area)
                                for volume, area, want in zip(late.row, late.row.areas, aim)))
                late = after(late, order)
            self.assertTrue(all(second <= first for first, second in zip(offs, offs[1:])))
            self.assertLessEqual(offs[-1], Fraction(1, 50))
            flow = fraction(inflow(late, order)) - fraction(cycle(coast, order).flow)
            self.assertLess(abs(flow), Fraction(1, 2))

    def test_one_height_of_the_seas(self):
        for left, right in ((5, None), (None, 5), (5, 5)):
            coast = Coast(Row((1, 2, 3), (7, 7, 7)), left, right)
            order = [2, 1, *([0] if left else []), *([3] if right else [])]
            self.assertEqual(cycle(coast, order), Cycle(((5, 1), (10, 1), (15, 1)), (0, 1)))

    def test_parted_by_a_weir_that_is_not_opened(self):
        coast = Coast(Row((1, 2, 3), (7, 7, 7)), 2, (1, 3))
        self.assertEqual(cycle(coast, [0, 2, 3]), Cycle(((2, 1), (2, 3), (1, 1)), (0, 1)))
        self.assertEqual(cycle(coast, [0, 1, 2]), Cycle(((2, 1), (4, 1), (6, 1)), (0, 1)))
        self.assertEqual(cycle(coast, [1, 2, 3]), Cycle(((1, 3), (2, 3), (1, 1)), (0, 1)))

    def test_turned_about(self):
        rng = random.Random(9)
        for _ in range(30):
            coast = random_coast(rng, rng.randint(1, 5), ((1, 2), 3))
            order = washing_order(rng, coast, 4)
            other = Coast(turned_about(coast.row), coast.right, coast.left)
            back = cycle(other, [len(coast.row) - weir for weir in order])
            told = cycle(coast, order)
            self.assertEqual(back.volumes, told.volumes[::-1])
            self.assertEqual(fraction(back.flow), -fraction(told.flow))

    def test_sums_of_seas(self):
        row = Row((1, 2, 1), (0, 0, 0))
        order = [1, 0, 2, 3, 1]
        one, other, both = [cycle(Coast(row, *seas), order) for seas in ((6, 0), (0, (5, 2)), (6, (5, 2)))]
        self.assertEqual([fraction(volume) for volume in both.volumes],
                         [fraction(first) + fraction(second) for first, second in zip(one.volumes, other.volumes)])
        self.assertEqual(fraction(both.flow), fraction(one.flow) + fraction(other.flow))

    def test_an_order_done_twice(self):
        coast = Coast(Row((1, 2, 1), (0, 0, 0)), 6, 1)
        once, twice = cycle(coast, [1, 0, 3, 2]), cycle(coast, [1, 0, 3, 2] * 2)
        self.assertEqual(once.volumes, twice.volumes)
        self.assertEqual(2 * fraction(once.flow), fraction(twice.flow))

    def test_long_orders_of_many_basins(self):
        rng = random.Random(10)
        coast = random_coast(rng, 24, ((3, 7), (5, 2)), most_area=1000)
        order = washing_order(rng, coast, 400)
        told = cycle(coast, order)
        start = Coast(Row(coast.row.areas, told.volumes), coast.left, coast.right)
        self.assertEqual(after(start, order), start)
        self.assertEqual(inflow(start, order), told.flow)

    def test_longest_orders(self):
        coast = Coast(Row((1, 2), (0, 0)), 6, 1)
        order = [0, 1, 1, 2] * 5000
        told = cycle(coast, order)
        self.assertEqual(told.volumes, cycle(coast, [0, 1, 2]).volumes)


def nearest_far(coast, place, rounds):
    """The least and the greatest water behind the first basins that some long orders bring."""
    many = len(coast.row)
    found = [sum(map(fraction, coast.row.volumes[place:]))]
    rng = random.Random(place)
    orders = [list(range(many)) * rounds, list(range(many))[::-1] * rounds]
    for _ in range(60):
        orders.append([rng.randrange(many) for _ in range(rng.randint(1, 12))])
    for weir in range(many):
        orders.append(list(range(weir, many))[::-1] * rounds)
        orders.append([other for other in range(many) if other != place][:weir] * rounds)
    for first in range(many + 1):
        for last in range(first, many + 1):
            orders.append(list(range(first, last)) * rounds)
            orders.append(list(range(first, last))[::-1] * rounds)
            orders.append((list(range(first, last)) + list(range(first, last))[::-1]) * rounds)
    for order in orders:
        late = coast
        for weir in order:
            late = late.opened(weir)
            found.append(sum(map(fraction, late.row.volumes[place:]), Fraction(0)))
    return min(found), max(found)


class FarBounds(unittest.TestCase):
    def plainly(self, coast, place):
        """The bounds by straight lines between all points, and from all points on by the rise of the sea."""
        points, far = [Fraction(0)], [0]
        for volume, area in zip(coast.row, coast.row.areas):
            points.append(points[-1] + fraction(volume))
            far.append(far[-1] + area)
        found = [points[place]]
        for other in range(place, len(points)):
            found.append(points[other] - fraction(coast.left) * (far[other] - far[place]))
            for one in range(place):
                rise = (points[other] - points[one]) / (far[other] - far[one])
                found.append(points[one] + rise * (far[place] - far[one]))
        return pair(points[-1] - max(found)), pair(points[-1] - min(found))

    def test_against_all_lines(self):
        rng = random.Random(11)
        for _ in range(150):
            sea = rng.choice((0, 1, (5, 2), 9))
            coast = random_coast(rng, rng.randint(1, 6), (sea, None))
            for place in range(len(coast.row) + 1):
                told = far_bounds(coast, place)
                self.assertIsInstance(told, tuple)
                self.assertEqual(told, self.plainly(coast, place))

    def test_never_passed_by_orders(self):
        rng = random.Random(12)
        for _ in range(60):
            coast = random_coast(rng, rng.randint(1, 5), (rng.choice((0, 1, (5, 2))), None))
            order = coast_order(rng, coast, 12)
            for place in range(len(coast.row) + 1):
                low, high = [fraction(bound) for bound in far_bounds(coast, place)]
                late = coast
                for weir in order:
                    late = late.opened(weir)
                    water = sum(map(fraction, late.row.volumes[place:]), Fraction(0))
                    self.assertLessEqual(low, water)
                    self.assertLessEqual(water, high)

    def test_nearly_come_to(self):
        rng = random.Random(13)
        for _ in range(12):
            coast = random_coast(rng, rng.randint(1, 3), (rng.choice((0, 1, 3)), None), most_area=2)
            for place in range(len(coast.row) + 1):
                low, high = [fraction(bound) for bound in far_bounds(coast, place)]
                least, most = nearest_far(coast, place, 40)
                self.assertLess(least - low, Fraction(1, 100), (coast.row.volumes, coast.left, place))
                self.assertLess(high - most, Fraction(1, 100), (coast.row.volumes, coast.left, place))

    def test_by_hand(self):
        coast = Coast(Row((1, 1), (3, 0)), 1)
        self.assertEqual([far_bounds(coast, place) for place in range(3)],
                         [((1, 1), (3, 1)), ((0, 1), (3, 2)), ((0, 1), (0, 1))])
        self.assertEqual(far_bounds(Coast(Row((2, 1), (0, 0)), (5, 2)), 0), ((0, 1), (15, 2)))
        self.assertEqual(far_bounds(Coast(Row((2, 1), (0, 0)), (5, 2)), 1), ((0, 1), (5, 2)))
        self.assertEqual(far_bounds(Coast(Row((2, 1), (4, 7)), 0), 1), ((0, 1), (7, 1)))


class Evidence(unittest.TestCase):
    def test_spoilt(self):
        coast, order = Coast(Row((1, 1), (0, 0)), 6, 0), [0, 1, 2]
        told = cycle(coast, order)
        self.assertEqual(told, Cycle(((3, 1), (0, 1)), (3, 1)))
        self.assertTrue(told.shows(coast, order))
        for volumes, flow in ((((3, 1),), (3, 1)), (((3, 1), (0, 1), (0, 1)), (3, 1)), (((0, 1), (3, 1)), (3, 1)),
                              (((3, 1), (0, 1)), (-3, 1)), (((3, 1), (0, 1)), (6, 2)), (((6, 2), (0, 1)), (3, 1)),
                              (((3, 1), (0, 1)), (0, 0)), (((3, 1), (-1, 1)), (3, 1)), ((), (3, 1))):
            self.assertFalse(Cycle(volumes, flow).shows(coast, order), (volumes, flow))
        self.assertFalse(told.shows(coast, [1, 0, 2]))
        self.assertFalse(told.shows(Coast(Row((1, 1), (0, 0)), 6, 1), order))
        told.flow = (2, 1)
        self.assertFalse(told.shows(coast, order))

    def test_equality_and_bool(self):
        self.assertEqual(Cycle(((1, 1),), (0, 1)), Cycle(((1, 1),), (0, 1)))
        self.assertNotEqual(Cycle(((1, 1),), (0, 1)), Cycle(((1, 1),), (1, 1)))
        self.assertNotEqual(Cycle(((1, 1),), (0, 1)), Cycle(((2, 1),), (0, 1)))
        self.assertNotEqual(Cycle((), (0, 1)), ((), (0, 1)))
        self.assertIs(bool(Cycle((), (0, 1))), True)


class Refused(unittest.TestCase):
    def test_coasts(self):
        for row in (None, (1, 1), Row((1, 1), (0, 0), [1]), Coast(Row((1,), (0,)))):
            self.assertRaises(BadRow, Coast, row, -1, -1)
        row = Row((1, 1), (0, 0))
        for height in (-1, (1, 0), (-1, 2), (1, -2), True, "1", 1.0, (1,), [1, 2]):
            self.assertRaises(BadNumber, Coast, row, height)
            self.assertRaises(BadNumber, Coast, row, None, height)

    def calls(self, coast, order):
        return [lambda: after(coast, order), lambda: inflow(coast, order), lambda: is_washed(coast, order),
                lambda: cycle(coast, order), lambda: Cycle((), (0, 1)).shows(coast, order)]

    def test_no_coasts(self):
        for wrong in (None, Row((1,), (0,)), (1, 2)):
            for call in self.calls(wrong, None):
                self.assertRaises(BadRow, call)
            self.assertRaises(BadRow, far_bounds, wrong, None)

    def test_orders_ahead_of_washing(self):
        coast = Coast(Row((1, 1), (0, 0)), 3)
        for order, place in ((None, None), ([1] * 20001, None), ([0, 1, 2], 2), ([True], 0), ("0", None), ([0, -1], 1)):
            for call in self.calls(coast, order):
                with self.assertRaises(BadOrder) as caught:
                    call()
                self.assertEqual(caught.exception.place, place)

    def test_what_is_not_washed(self):
        coast = Coast(Row((1, 1), (0, 0)), 3)
        for order in ([], [0], [1, 1], (0, 0)):
            self.assertRaises(NoOrder, cycle, coast, order)
            self.assertRaises(NoOrder, Cycle((), (0, 1)).shows, coast, order)
        self.assertRaises(NoOrder, cycle, Coast(coast.row), [1])
        self.assertRaises(NoOrder, cycle, Coast(coast.row, 1, 2), [0, 0])

    def test_far_bounds(self):
        row = Row((1, 1), (0, 0))
        for coast in (Coast(row), Coast(row, None, 1), Coast(row, 1, 1)):
            self.assertRaises(NoOrder, far_bounds, coast, None)
        for place in (-1, 3, True, None, "1"):
            self.assertRaises(BadNumber, far_bounds, Coast(row, 0), place)

    def test_nothing_is_changed(self):
        coast = Coast(Row((1, 2), (3, 4)), 1, 2)
        order = [0, 1, 2]
        cycle(coast, order), after(coast, order), inflow(coast, order), is_washed(coast, order)
        self.assertEqual((coast, order), (Coast(Row((1, 2), (3, 4)), 1, 2), [0, 1, 2]))
        self.assertEqual(plain_after(coast.row, []), [3, 4])
