"""What the document promises over several points, and over the whole program."""

import copy
import random
import unittest
from fractions import Fraction

from tests.brute import ALL_ROUNDS, fraction, pair, random_order, random_row, turned_about
from weirlines.allrows import FirstUnlike, Later, SameAlways, judge_later, judge_programs, tidy_program
from weirlines.amounts import Recurrence, amount, amounts, recurrence
from weirlines.books import Book
from weirlines.bounds import High, Low, highest, lowest, nearing, reaching
from weirlines.errors import BadNumber, BadOrder, BadRow, BadWeir
from weirlines.fewrounds import FewRounds, different_programs, few_rounds
from weirlines.guarding import Guard, guards, loosened
from weirlines.laps import (EvenAlways, LapRecurrence, LapsDone, LapsLeft, Parted, judge_even, judge_laps, lap_limit,
                            lap_recurrence, lapped, left_behind, moved, stretches)
from weirlines.loops import Settles, Tends, limit, rounds_within, runs, settling
from weirlines.making import Best, best, fewest
from weirlines.origins import Shares, shares, sources
from weirlines.planerrors import BadProgram, BadStart
from weirlines.pouring import Over, Poured, Rising, Straight, judge_goal, near_goal, poured
from weirlines.programs import Program
from weirlines.rooms import Room, counted, drain, room, share_out
from weirlines.rows import Row, behind, steps
from weirlines.sameness import Differ, Same, judge_orders, tidy
from weirlines.seas import Coast, Cycle, after, cycle, far_bounds, inflow, is_washed
from weirlines.shapes import Dominant, Less, More, Rivals, judge_dominant, judge_more
from weirlines.turning import gives, got, turned_back
from weirlines.turns import Sinking, peaks, signs, sinking, turns, turns_left
from weirlines.weights import Longest, bar, difference, even_weight, falls, longest, weight

ODD, EVEN, RIGHT, LEFT = ("every", 2, 1), ("every", 2, 0), ("right",), ("left",)


def volumes_of(row):
    return [fraction(volume) for volume in row]


def with_water(row, volumes):
    return Row(row.areas, tuple(pair(volume) for volume in volumes), row.locks)


def both(one, other, first=1, second=1):
    """A multiple of a row and one of another one, together."""
    return with_water(one, [first * here + second * there for here, there in zip(volumes_of(one), volumes_of(other))])


def wide(row, number):
    """The row with all areas so many times as large."""
    return Row(tuple(area * number for area in row.areas), row.volumes, row.locks)


def pieces(row):
    """The rows between the locks, each with the number of the basins ahead of it."""
    ends = [0, *row.locks, len(row)]
    return [(first, Row(row.areas[first:end], row.volumes[first:end])) for first, end in zip(ends, ends[1:])]


def random_program(rng, most=3):
    return Program([rng.choice(ALL_ROUNDS) for _ in range(rng.randint(0, most))])


class SumsAndMultiples(unittest.TestCase):
    def setUp(self):
        self.rng = random.Random(1)

    def pairs_of_rows(self, many):
        for _ in range(many):
            one = random_row(self.rng, self.rng.randint(1, 6), locked=0.15)
            yield one, with_water(one, [self.rng.randint(0, 6) for _ in one]), Fraction(self.rng.randint(0, 5), 2)

    def test_orders_and_limits(self):
        for one, other, number in self.pairs_of_rows(40):
            order = random_order(self.rng, one, 6)
            self.assertEqual(behind(both(one, other, number), order),
                             both(behind(one, order), behind(other, order), number))
            self.assertEqual(limit(both(one, other, number), order), both(limit(one, order), limit(other, order), number))

    def test_bounds(self):
        for one, other, number in self.pairs_of_rows(40):
            for place in range(len(one) + 1):
                together = fraction(highest(both(one, other), place).number)
                self.assertLessEqual(together, fraction(highest(one, place).number) + fraction(highest(other, place).number))
                times = both(one, other, number, 0)
                self.assertEqual(fraction(highest(times, place).number), number * fraction(highest(one, place).number))
                self.assertEqual(fraction(lowest(times, place).number), number * fraction(lowest(one, place).number))

    def test_multiples(self):
        for one, other, number in self.pairs_of_rows(30):
            times = both(one, other, number, 0)
            order = random_order(self.rng, one, 5)
            self.assertEqual(fraction(weight(times)), number ** 2 * fraction(weight(one)))
            self.assertEqual([fraction(fall) for fall in falls(times, order)],
                             [number ** 2 * fraction(fall) for fall in falls(one, order)])
            place = self.rng.randint(0, len(one))
            self.assertEqual(fraction(best(times, place, 3).number), number * fraction(best(one, place, 3).number))
            if number:
                self.assertEqual(sinking(times, order), sinking(one, order))
                self.assertEqual(best(times, place, 3).order, best(one, place, 3).order)

    def test_rooms(self):
        for one, other, number in self.pairs_of_rows(30):
            if not number:
                continue
            times = both(one, other, number, 0)
            place, basin = self.rng.randint(0, len(one)), self.rng.randrange(len(one))
            cap = fraction(highest(one, place).number) + self.rng.randint(0, 3)
            told, late = room(one, basin, place, pair(cap)), room(times, basin, place, pair(number * cap))
            self.assertEqual(late and fraction(late.volume), told and number * fraction(told.volume))
            told, late = drain(one, basin, place, pair(cap - 2)), drain(times, basin, place, pair(number * (cap - 2)))
            self.assertEqual(late and fraction(late), told and number * fraction(told))
            self.assertEqual(counted(times, place), counted(one, place))

    def test_gains(self):
        for one, other, number in self.pairs_of_rows(30):
            first, second = random_order(self.rng, one, 4), random_order(self.rng, one, 4)
            place = self.rng.randint(0, len(one))
            told = judge_more(one.areas, first, second, place, locks=one.locks)
            if told:
                gain = sum(fraction(gain) * volume for gain, volume in zip(told.gains, volumes_of(other)))
                self.assertEqual(gain, fraction(behind(other, first).sums()[place]) -
                                 fraction(behind(other, second).sums()[place]))

    def test_parts_of_many_basins(self):
        areas = tuple(self.rng.randint(1, 1000) for _ in range(24))
        row = Row(areas, tuple((self.rng.randint(0, 99), self.rng.randint(1, 9)) for _ in areas))
        order = [self.rng.randint(1, 23) for _ in range(300)]
        told, late = shares(areas, order), behind(row, order)
        for place in (0, 7, 23):
            water = sum(fraction(volume) * fraction(told.columns[basin][place]) for basin, volume in enumerate(row))
            self.assertEqual(pair(water), late[place])
        self.assertEqual(pair(sum(fraction(part) * volume for part, volume in zip(told.ahead(9), volumes_of(row)))),
                         late.sums()[9])
        self.assertEqual([first <= place < end for place in range(24) for first, end in [sources(row, order, place)]],
                         [True] * 24)

    def test_seas(self):
        row = Row((1, 3, 2), (0, 0, 0))
        for order in ([0, 1, 2, 3], [2, 3, 1, 0, 2, 2]):
            unit = cycle(Coast(row, 1, 0), order)
            told = cycle(Coast(row, (7, 2), (1, 2)), order)
            self.assertEqual([fraction(volume) for volume in told.volumes],
                             [3 * fraction(volume) + Fraction(area, 2) for volume, area in zip(unit.volumes, row.areas)])
            self.assertEqual(fraction(told.flow), 3 * fraction(unit.flow))


class TurnedAbout(unittest.TestCase):
    def setUp(self):
        self.rng = random.Random(2)

    def rows(self, many):
        for _ in range(many):
            row = random_row(self.rng, self.rng.randint(1, 6), locked=0.2)
            yield row, turned_about(row)

    def back(self, row, order):
        return [len(row) - weir for weir in order]

    def test_bounds(self):
        for row, other in self.rows(50):
            total = fraction(row.sums()[-1])
            for place in range(len(row) + 1):
                self.assertEqual(fraction(highest(other, len(row) - place).number),
                                 total - fraction(lowest(row, place).number))

    def test_orders(self):
        for row, other in self.rows(50):
            order = random_order(self.rng, row, 6)
            back = self.back(row, order)
            self.assertEqual(behind(other, back), turned_about(behind(row, order)))
            self.assertEqual(limit(other, back), turned_about(limit(row, order)))
            self.assertEqual(settling(other, back), settling(row, order))
            self.assertEqual(sinking(other, back), sinking(row, order))
            self.assertEqual((turns(other), signs(other)), (turns(row), [-sign for sign in signs(row)][::-1]))
            self.assertEqual(falls(other, back), falls(row, order))
            self.assertEqual((weight(other), even_weight(other), bar(other, (1, 3))),
                             (weight(row), even_weight(row), bar(row, (1, 3))))
            self.assertEqual(peaks(other), [(len(row) - end, len(row) - first) for first, end in peaks(row)][::-1])

    def test_where_water_comes_from(self):
        for row, other in self.rows(40):
            order = random_order(self.rng, row, 6)
            back = self.back(row, order)
            self.assertEqual(shares(other.areas, back, locks=other.locks).columns,
                             [column[::-1] for column in shares(row.areas, order, locks=row.locks).columns[::-1]])
            for basin in range(len(row)):
                first, end = sources(row, order, basin)
                self.assertEqual(sources(other, back, len(row) - 1 - basin), (len(row) - end, len(row) - first))

    def test_more_water(self):
        # What the first basins have more, the others have less.
        for row, other in self.rows(40):
            one, two = random_order(self.rng, row, 3), random_order(self.rng, row, 3)
            place = self.rng.randint(0, len(row))
            for shape, turned in (("any", "any"), ("rising", "falling"), ("falling", "rising")):
                told = judge_more(row.areas, one, two, place, shape, locks=row.locks)
                late = judge_more(other.areas, self.back(row, two), self.back(row, one), len(row) - place, turned,
                                  locks=other.locks)
                self.assertIs(bool(late), bool(told))
                if told:
                    self.assertEqual(late.gains, told.gains[::-1])

    def test_far_bounds(self):
        for _ in range(30):
            row = random_row(self.rng, self.rng.randint(1, 5))
            coast = Coast(row, self.rng.randint(0, 4))
            order = [self.rng.randrange(len(row)) for _ in range(6)]
            late = after(coast, order)
            for place in range(len(row) + 1):
                low, high = far_bounds(coast, place)
                later = far_bounds(late, place)
                self.assertLessEqual(fraction(low), fraction(later[0]))
                self.assertGreaterEqual(fraction(high), fraction(later[1]))


class Stretches(unittest.TestCase):
    def test_rows_between_their_locks(self):
        rng = random.Random(3)
        for _ in range(60):
            row = random_row(rng, rng.randint(2, 8), locked=0.35)
            order = random_order(rng, row, 6)
            late, aim = behind(row, order), limit(row, order)
            heavy = Fraction(0)
            for first, piece in pieces(row):
                end = first + len(piece)
                own = [weir - first for weir in order if first < weir < end]
                self.assertEqual(behind(piece, own).volumes, late.volumes[first:end])
                self.assertEqual(limit(piece, own).volumes, aim.volumes[first:end])
                water = fraction(row.sums()[first])
                heavy += fraction(even_weight(piece))
                for place in range(len(piece) + 1):
                    self.assertEqual(fraction(highest(row, first + place).number),
                                     water + fraction(highest(piece, place).number))
                    self.assertEqual(fraction(lowest(row, first + place).number),
                                     water + fraction(lowest(piece, place).number))
                    self.assertEqual(fraction(best(row, first + place, 3).number),
                                     water + fraction(best(piece, place, 3).number))
                for basin in range(len(piece)):
                    there = sources(piece, own, basin)
                    self.assertEqual(sources(row, order, first + basin), (there[0] + first, there[1] + first))
            self.assertEqual(fraction(even_weight(row)), heavy)

    def test_rooms_between_locks(self):
        rng = random.Random(4)
        for _ in range(60):
            row = random_row(rng, rng.randint(2, 7), locked=0.35)
            for first, piece in pieces(row):
                place, basin = rng.randint(1, len(piece)), rng.randrange(len(piece))
                cap = fraction(highest(piece, place).number) + rng.randint(0, 3)
                water = fraction(row.sums()[first])
                told, late = room(piece, basin, place, pair(cap)), room(row, first + basin, first + place, pair(cap + water))
                self.assertEqual(late and late.volume, told and told.volume)
                self.assertEqual(drain(piece, basin, place, pair(cap - 3)),
                                 drain(row, first + basin, first + place, pair(cap - 3 + water)))
                parts = counted(row, first + place)
                self.assertEqual(parts[:first], [(1, 1)] * first)
                self.assertEqual(parts[first + len(piece):], [(0, 1)] * (len(row) - first - len(piece)))


class LargerAreas(unittest.TestCase):
    def test_all_times_a_number(self):
        rng = random.Random(5)
        for _ in range(40):
            row = random_row(rng, rng.randint(1, 6), locked=0.2)
            large = wide(row, rng.randint(2, 9))
            order = random_order(rng, row, 6)
            self.assertEqual(behind(large, order).volumes, behind(row, order).volumes)
            self.assertEqual(limit(large, order).volumes, limit(row, order).volumes)
            self.assertEqual(shares(large.areas, order, locks=large.locks), shares(row.areas, order, locks=row.locks))
            self.assertEqual(sinking(large, order), sinking(row, order))
            for place in range(len(row) + 1):
                self.assertEqual(highest(large, place), highest(row, place))
                self.assertEqual(lowest(large, place), lowest(row, place))
                self.assertEqual(best(large, place, 3), best(row, place, 3))
                self.assertEqual(counted(large, place), counted(row, place))
                cap = highest(row, place).number
                for basin in range(len(row)):
                    self.assertEqual(room(large, basin, place, cap), room(row, basin, place, cap))
                self.assertEqual(guards(large, row.weirs(), place, lowest(row, place).number),
                                 guards(row, row.weirs(), place, lowest(row, place).number))


class MoreWater(unittest.TestCase):
    def test_ahead_and_everywhere(self):
        rng = random.Random(6)
        for _ in range(60):
            row = random_row(rng, rng.randint(1, 6), locked=0.2)
            more = with_water(row, [volume + rng.choice((0, 0, 1, 3)) for volume in volumes_of(row)])
            order = random_order(rng, row, 6)
            self.assertTrue(all(late >= early for late, early in
                                zip(volumes_of(behind(more, order)), volumes_of(behind(row, order)))))
            for place in range(len(row) + 1):
                self.assertGreaterEqual(fraction(highest(more, place).number), fraction(highest(row, place).number))
                self.assertGreaterEqual(fraction(lowest(more, place).number), fraction(lowest(row, place).number))
                self.assertGreaterEqual(fraction(best(more, place, 3).number), fraction(best(row, place, 3).number))
                cap = pair(fraction(highest(more, place).number) + 1)
                for basin in range(len(row)):
                    one, late = room(row, basin, place, cap), room(more, basin, place, cap)
                    self.assertIs(one is None, late is None)
                    if one is not None:
                        self.assertGreaterEqual(fraction(one.volume), fraction(late.volume))
                number = lowest(row, place).number
                one, late = guards(row, row.weirs(), place, number), guards(more, row.weirs(), place, number)
                if late is not None:
                    self.assertLessEqual(len(one.locks), len(late.locks))
            if len(row) > 1:
                ahead = with_water(row, [volumes_of(row)[0] + 2, *volumes_of(row)[1:]])
                for place in range(1, len(row) + 1):
                    gain = fraction(behind(ahead, order).sums()[place]) - fraction(behind(row, order).sums()[place])
                    self.assertEqual(gain, 2 * fraction(shares(row.areas, order, locks=row.locks).ahead(place)[0]))

    def test_higher_seas(self):
        rng = random.Random(7)
        for _ in range(30):
            row = random_row(rng, rng.randint(1, 5))
            order = list(range(len(row) + 1)) + [rng.randint(0, len(row)) for _ in range(4)]
            low, high = cycle(Coast(row, 1, 2), order), cycle(Coast(row, 2, 2), order)
            self.assertTrue(all(fraction(late) >= fraction(early) for late, early in zip(high.volumes, low.volumes)))
            self.assertGreaterEqual(fraction(high.flow), fraction(low.flow))
            for place in range(len(row) + 1):
                one, two = far_bounds(Coast(row, 1), place), far_bounds(Coast(row, 2), place)
                self.assertLessEqual(fraction(one[0]), fraction(two[0]))
                self.assertLessEqual(fraction(one[1]), fraction(two[1]))


class ProgramsOnRows(unittest.TestCase):
    def setUp(self):
        self.rng = random.Random(8)

    def cases(self, many):
        for _ in range(many):
            program, volumes = random_program(self.rng), [self.rng.randint(0, 7) for _ in range(self.rng.randint(1, 8))]
            yield program, volumes, Row((1,) * len(volumes), tuple(volumes)), program.order(len(volumes))

    def test_orders(self):
        for program, volumes, row, order in self.cases(50):
            self.assertEqual(program.done(volumes), behind(row, order).volumes)
            columns = shares(row.areas, order).columns
            for basin in range(len(row)):
                self.assertEqual(gives(program, len(row), basin), columns[basin])
                self.assertEqual(got(program, len(row), basin), tuple(column[basin] for column in columns))
            self.assertEqual(amount(program, "ones", 0, len(row)), (1, 1))

    def test_turned_back(self):
        for program, volumes, row, order in self.cases(50):
            back = turned_back(program)
            self.assertEqual(shares(row.areas, back.order(len(row))).columns,
                             list(zip(*shares(row.areas, order).columns)))
            late = Row((1,) * len(row), back.done(volumes))
            self.assertEqual(behind(row, order[::-1]), late)

    def test_the_same(self):
        for program, volumes, row, order in self.cases(40):
            kinds = [told for told in ALL_ROUNDS[2:5]]
            easy = Program([told for told in program.rounds if told in kinds])
            other = Program([self.rng.choice(kinds) for _ in range(2)])
            told = judge_programs(easy, other)
            for many in range(1, 7):
                same = judge_orders((1,) * many, easy.order(many), other.order(many))
                if told or many < told.many:
                    self.assertTrue(same)
                elif many == told.many:
                    self.assertEqual(same, Differ(told.basin))
            self.assertTrue(judge_programs(easy, tidy_program(easy)))

    def test_laps_as_loops(self):
        for program, volumes, row, order in self.cases(50):
            self.assertEqual(stretches(program, len(row)), runs(row, order))
            self.assertEqual(lap_limit(program, volumes), limit(row, order).volumes)
            self.assertEqual(lapped(program, volumes, 4), behind(row, order * 4).volumes)
            told = judge_laps(program, len(row))
            lone = [Row((1,) * len(row), tuple(int(at == basin) for at in range(len(row)))) for basin in range(len(row))]
            found = [settling(start, order) for start in lone]
            self.assertIs(bool(told), all(found))
            if told:
                self.assertEqual(told.laps, max(one.rounds for one in found))
                self.assertEqual(left_behind(program, len(row), told.laps), (0, 1))
            else:
                self.assertEqual(told.basin, [bool(one) for one in found].index(False))
                widths = [fraction(one.width) for one in found if not one]
                self.assertEqual(fraction(left_behind(program, len(row), len(row))), max(widths))
            changed = [sum(abs(late - early) for late, early in zip(volumes_of(end), volumes_of(start)))
                       for start, end in zip([row, behind(row, order)], [behind(row, order), behind(row, order * 2)])]
            self.assertEqual(moved(program, volumes, 2), [pair(number) for number in changed])

    def test_rounds_within(self):
        for program, volumes, row, order in self.cases(20):
            rounds = rounds_within(row, order, (1, 4))
            aim = [fraction(volume) for volume in lap_limit(program, volumes)]
            for laps, near in ((rounds, True), (rounds - 1, False)):
                if laps >= 0:
                    late = [fraction(volume) for volume in lapped(program, volumes, laps)]
                    self.assertIs(max(abs(own - want) for own, want in zip(late, aim)) <= Fraction(1, 4), near)

    def test_recurrences(self):
        program = Program([RIGHT, ODD])
        told = recurrence(program, "first", 0)
        self.assertEqual([told.value(at) for at in range(12)], amounts(program, "first", 0, 12))
        self.assertEqual(amounts(program, "first", 0, 12)[7], gives(program, 8, 0)[7])

    def test_few_rounds(self):
        kinds = [ODD, EVEN]
        for rounds in different_programs(kinds, 3):
            told = few_rounds(Program(rounds + rounds[-1:]), kinds)
            self.assertEqual(told.rounds, rounds)
            self.assertTrue(judge_later(Program(rounds), Program(told.rounds)))

    def test_books(self):
        book = Book()
        program = Program([ODD, EVEN, RIGHT])
        book.put("p", program)
        book.put("a", Row((1,) * 5, (9, 0, 0, 1, 0)))
        late = book.pour("a", *book["p"].order(5))
        self.assertEqual(late.volumes, program.done([9, 0, 0, 1, 0]))


def all_evidence():
    """Each kind of evidence, with what its `shows` is to be called with."""
    row, program, coast = Row((1, 1, 1), (0, 0, 4)), Program([ODD, EVEN]), Coast(Row((1, 1), (0, 0)), 6, 0)
    fall, goal = Row((1, 1, 1), (6, 0, 0)), Row((1, 1, 1), (3, 2, 1))
    flat = Row((1, 1, 1), (2, 2, 2))
    return [
        (highest(row, 1), (row, 1), True), (lowest(row, 1), (row, 1), True), (best(row, 1, 2), (row, 1, 2), True),
        (settling(row, [1]), (row, [1]), True), (settling(row, [1, 2]), (row, [1, 2]), False),
        (judge_orders((1, 1), [1], [1, 1]), ((1, 1), [1], [1, 1]), True),
        (judge_orders((1, 1), [1], []), ((1, 1), [1], []), False), (sinking(row, [2, 1]), (row, [2, 1]), True),
        (longest(row, 1), (row, 1), True), (judge_goal(fall, goal), (fall, goal), True),
        (judge_goal(fall, Row((1, 1, 1), (1, 3, 2))), (fall, Row((1, 1, 1), (1, 3, 2))), False),
        (judge_goal(goal, fall), (goal, fall), False), (judge_goal(fall, flat), (fall, flat), False),
        (judge_programs(program, program), (program, program), True),
        (judge_programs(program, Program([])), (program, Program([])), False),
        (judge_later(program, program), (program, program), True),
        (recurrence(Program([RIGHT]), "first", 0), (Program([RIGHT]), "first", 0), True),
        (shares((1, 1), [1]), ((1, 1), [1]), True), (judge_more((1, 1), [], [], 1), ((1, 1), [], [], 1), True),
        (judge_more((1, 1), [1], [], 1), ((1, 1), [1], [], 1), False),
        (judge_dominant((1, 1), 1, 1, "rising"), ((1, 1), 1, 1, "rising"), True),
        (judge_dominant((1, 1), 1, 1), ((1, 1), 1, 1), False), (cycle(coast, [0, 1, 2]), (coast, [0, 1, 2]), True),
        (guards(row, [1, 2], 1, 1), (row, [1, 2], 1, 1), True), (judge_laps(Program([ODD]), 4), (Program([ODD]), 4), True),
        (judge_laps(program, 4), (program, 4), False),
        (lap_recurrence(program, [4, 0, 0], 0), (program, [4, 0, 0], 0), True), (judge_even(program), (program,), True),
        (judge_even(Program([ODD])), (Program([ODD]),), False),
        (few_rounds(program, [ODD, EVEN]), (program, [ODD, EVEN]), True), (room(row, 2, 1, 4), (row, 2, 1, 4), True)]


class Evidence(unittest.TestCase):
    def test_all_kinds_are_looked_at(self):
        kinds = {High, Low, Best, Settles, Tends, Same, Differ, Sinking, Longest, Poured, Rising, Over, Straight, SameAlways,
                 FirstUnlike, Later, Recurrence, Shares, More, Less, Dominant, Rivals, Cycle, Guard, LapsDone, LapsLeft,
                 LapRecurrence, EvenAlways, Parted, FewRounds, Room}
        self.assertEqual({told.__class__ for told, _, _ in all_evidence()}, kinds)

    def test_shows_and_bool(self):
        for told, asked, truth in all_evidence():
            self.assertIs(told.shows(*asked), True, told)
            self.assertIs(bool(told), truth, told)

    def test_equal_to_copies_and_to_no_other_kind(self):
        found = [told for told, _, _ in all_evidence()]
        for at, told in enumerate(found):
            self.assertEqual(told, copy.deepcopy(told))
            for other in found[:at]:
                self.assertNotEqual(told, other)
            for other in (None, 0, 1, (), [], "", told.__class__):
                self.assertNotEqual(told, other)

    def test_unequal_if_any_attribute_is_unlike(self):
        for told, _, _ in all_evidence():
            for name in vars(told):
                other = copy.deepcopy(told)
                setattr(other, name, "else")
                self.assertNotEqual(told, other, (told, name))

    def test_lists_given_as_tuples(self):
        for told, asked, _ in all_evidence():
            attributes = vars(told)
            made = told.__class__(**{name: tuple(part) if isinstance(part, list) else part
                                     for name, part in attributes.items()})
            self.assertEqual(made, told)
            self.assertIs(made.shows(*asked), True)
            for name, part in attributes.items():
                self.assertIs(getattr(made, name).__class__, part.__class__)
                if isinstance(part, (list, dict)):
                    self.assertIsNot(getattr(told.__class__(**attributes), name), part)

    def test_what_shows_is_given_is_not_changed(self):
        for told, asked, _ in all_evidence():
            before, attributes = copy.deepcopy(asked), copy.deepcopy(vars(told))
            told.shows(*asked)
            self.assertEqual((asked, vars(told)), (before, attributes))


class NeitherChangedNorKept(unittest.TestCase):
    def test_what_is_given(self):
        row, order, program = Row((1, 2, 1, 3), (6, 4, 2, 0)), [1, 3, 2, 2], Program([ODD, EVEN])
        choices, volumes, kinds, caps, parts = [1, 2], [1, 0, (2, 4)], [ODD, EVEN], {1: 9, 4: 99}, [(1, (1, 2))]
        coast = Coast(Row((1, 1), (0, 0)), 6, 0)
        goal = limit(row, [1, 2, 3])
        given = (row, order, program, choices, volumes, kinds, caps, parts, coast, goal)
        before = copy.deepcopy(given)
        for call in (lambda: behind(row, order), lambda: list(steps(row, order)), lambda: highest(row, 1),
                     lambda: nearing(row, 1, (1, 9)), lambda: reaching(row, 1), lambda: best(row, 1, 3),
                     lambda: fewest(row, 1, 2, 3), lambda: limit(row, order), lambda: settling(row, order),
                     lambda: judge_orders(row.areas, order, order, locks=choices), lambda: tidy(row, order),
                     lambda: sinking(row, order), lambda: turns_left(row), lambda: falls(row, order),
                     lambda: longest(row, 3), lambda: poured(row, parts), lambda: judge_goal(row, goal),
                     lambda: near_goal(row, goal, 1), lambda: program.done(volumes),
                     lambda: shares(row.areas, order), lambda: sources(row, order, 1),
                     lambda: judge_more(row.areas, order, order, 1), lambda: judge_dominant(row.areas, 1, 2),
                     lambda: after(coast, [0, 1]), lambda: inflow(coast, [0, 1]), lambda: is_washed(coast, [0, 1]),
                     lambda: cycle(coast, [0, 1]), lambda: guards(row, choices, 1, 1), lambda: loosened(row, 1, 1),
                     lambda: lapped(program, volumes, 3), lambda: lap_recurrence(program, volumes, 1),
                     lambda: few_rounds(program, kinds), lambda: different_programs(kinds, 2),
                     lambda: room(row, 1, 1, 99), lambda: drain(row, 1, 1, 1), lambda: share_out(row, caps)):
            try:
                call()
            except (BadOrder, BadWeir):
                pass
            self.assertEqual(given, before)

    def test_what_is_returned_is_new(self):
        row, program = Row((1, 1, 1), (0, 0, 4)), Program([ODD, EVEN])
        for call in (row.weirs, row.heights, row.sums, row.reaches, lambda: nearing(row, 1, 1), lambda: reaching(row, 0),
                     lambda: runs(row, [1]), lambda: tidy(row, [2, 1]), lambda: signs(row), lambda: peaks(row),
                     lambda: falls(row, [1, 2]), lambda: program.order(4), lambda: amounts(program, "ones", 0, 3),
                     lambda: shares((1, 1), [1]).ahead(1), lambda: loosened(row, 1, 9), lambda: stretches(program, 4),
                     lambda: moved(program, [1, 2], 2), lambda: different_programs([ODD], 1), lambda: counted(row, 1),
                     lambda: share_out(row, {1: 4})):
            found = call()
            self.assertIsInstance(found, list)
            found.append("more")
            self.assertNotEqual(call(), found)

    def test_booleans_are_no_integers(self):
        row, program = Row((1, 1, 1), (0, 0, 4)), Program([ODD, EVEN])
        for error, calls in (
                (BadRow, (lambda: Row((True,), (0,)), lambda: Row((1,), (True,)), lambda: judge_orders((True,), [], []),
                          lambda: shares((True,), []), lambda: judge_more((1, True), [], [], 0))),
                (BadWeir, (lambda: Row((1, 1), (0, 0), [True]), lambda: row.opened(True), lambda: difference(row, True),
                           lambda: guards(row, [True], 1, 1), lambda: Coast(row, 1).opened(False))),
                (BadOrder, (lambda: behind(row, [True]), lambda: poured(row, [(True, 1)]), lambda: poured(row, [(1, True)]),
                            lambda: after(Coast(row, 1), [False]))),
                (BadNumber, (lambda: highest(row, True), lambda: best(row, 1, True), lambda: fewest(row, 1, True, 1),
                             lambda: nearing(row, 1, True), lambda: bar(row, True), lambda: Coast(row, True),
                             lambda: judge_dominant((1, 1), True, 1), lambda: judge_dominant((1, 1), 1, True),
                             lambda: room(row, True, 1, 9), lambda: room(row, 1, True, 9), lambda: room(row, 1, 1, True),
                             lambda: counted(row, True), lambda: share_out(row, {True: 9}),
                             lambda: loosened(row, 1, True))),
                (BadProgram, (lambda: Program([("every", 2, True)]), lambda: few_rounds(program, [("every", 2, False)]))),
                (BadStart, (lambda: program.order(True), lambda: program.done([True]), lambda: gives(program, 3, True),
                            lambda: lapped(program, [1], True), lambda: judge_laps(program, True),
                            lambda: amount(program, "ones", False, 1), lambda: different_programs([ODD], True),
                            lambda: lap_recurrence(program, [1, 2], True)))):
            for call in calls:
                self.assertRaises(error, call)
        self.assertNotIn(True, row)
        self.assertNotIn(False, Coast(row, 1))


class FirstErrors(unittest.TestCase):
    def test_rows_first_of_all(self):
        for wrong in (None, (1, 1), [1], Coast(Row((1,), (0,)))):
            for call in (behind, sinking, falls, tidy, settling, limit, runs, poured, near_goal, judge_goal, highest, lowest,
                         reaching, weight, even_weight, bar, turns, signs, peaks, turns_left, counted, share_out, longest,
                         difference, best, fewest, nearing, rounds_within, sources, guards, loosened, room, drain):
                many = call.__code__.co_argcount
                self.assertRaises(BadRow, call, wrong, *[None] * (many - 1))
            self.assertRaises(BadRow, list, steps(wrong, None))

    def test_programs_first(self):
        for wrong in (None, [ODD], Row((1,), (0,))):
            for call in (judge_programs, judge_later, tidy_program, amount, amounts, recurrence, turned_back, gives, got,
                         lapped, stretches, lap_limit, left_behind, moved, judge_laps, lap_recurrence, judge_even):
                many = call.__code__.co_argcount
                with self.assertRaises(BadProgram) as caught:
                    call(wrong, *[None] * (many - 1))
                self.assertIsNone(caught.exception.place)
