"""Point [24], and the conventions [1] for its evidence."""

import random
import unittest
from itertools import product

from tests.brute import ALL_ROUNDS
from weirlines.allrows import judge_programs
from weirlines.fewrounds import FewRounds, different_programs, few_rounds
from weirlines.planerrors import BadProgram, BadStart, Mixed
from weirlines.programs import Program

ODD, EVEN, RIGHT, LEFT = ("every", 2, 1), ("every", 2, 0), ("right",), ("left",)
EASY = [ODD, EVEN, RIGHT, ("every", 4, 1), ("every", 4, 3)]


def tuples(kinds, longest):
    return [told for many in range(longest + 1) for told in product(kinds, repeat=many)]


def against_of(program, kinds, many):
    found = {}
    for rounds in tuples(kinds, many - 1) if many else []:
        told = judge_programs(program, Program(rounds))
        found[rounds] = (told.many, told.basin, told.place)
    return found


class FewOnes(unittest.TestCase):
    def test_against_all_tuples(self):
        rng = random.Random(1)
        seen = set()
        for _ in range(40):
            kinds = rng.sample(EASY, rng.randint(0, 3))
            pool = kinds if kinds and rng.random() < 0.8 else EASY
            program = Program([rng.choice(pool) for _ in range(rng.randint(0, 4))])
            told = few_rounds(program, kinds)
            alike = [rounds for rounds in tuples(kinds, 3) if judge_programs(program, Program(rounds))]
            if not alike:
                self.assertIsNone(told)
                seen.add(None)
                continue
            self.assertIsInstance(told, FewRounds)
            self.assertIsInstance(told.rounds, tuple)
            self.assertEqual(told.rounds, alike[0])
            self.assertEqual(told.against, against_of(program, kinds, len(alike[0])))
            self.assertTrue(told.shows(program, kinds))
            for rounds in tuples(kinds, 3):
                other = FewRounds(rounds, told.against)
                self.assertIs(other.shows(program, kinds), rounds in alike and len(rounds) == len(alike[0]))
            seen.add(len(told.rounds))
        self.assertEqual(seen, {None, 0, 1, 2, 3})

    def test_by_hand(self):
        found = few_rounds(Program([ODD, ODD, EVEN]), [ODD, EVEN])
        self.assertEqual((found.rounds, found.against[()]), ((ODD, EVEN), (2, 0, 0)))
        self.assertEqual(sorted(found.against), [(), (EVEN,), (ODD,)])
        self.assertEqual(few_rounds(Program([]), []), FewRounds((), {}))
        self.assertEqual(few_rounds(Program([]), (ODD,)), FewRounds((), {}))
        self.assertIsNone(few_rounds(Program([ODD]), [EVEN]))
        self.assertIsNone(few_rounds(Program([ODD, EVEN] * 2), [ODD, EVEN]))
        self.assertIsNone(few_rounds(Program([ODD]), []))

    def test_the_first_tuple_in_the_order_of_the_kinds(self):
        one, other = ("every", 4, 1), ("every", 4, 3)
        self.assertEqual(few_rounds(Program([ODD]), [one, other]).rounds, (one, other))
        self.assertEqual(few_rounds(Program([ODD]), (other, one)).rounds, (other, one))
        self.assertEqual(few_rounds(Program([ODD]), [other, one, ODD]).rounds, (ODD,))
        told = few_rounds(Program([ODD]), [one, other])
        self.assertTrue(FewRounds((other, one), told.against).shows(Program([ODD]), [one, other]))

    def test_several_times(self):
        self.assertEqual(few_rounds(Program([ODD, EVEN, ODD, ODD]), [EVEN, ODD]).rounds, (ODD, EVEN, ODD))
        self.assertEqual(few_rounds(Program([RIGHT, RIGHT]), [RIGHT]).rounds, (RIGHT, RIGHT))
        self.assertEqual(few_rounds(Program([LEFT]), [LEFT, ODD]).rounds, (LEFT,))


class DifferentOnes(unittest.TestCase):
    def plainly(self, kinds, longest):
        found = []
        for rounds in tuples(kinds, longest):
            if not any(judge_programs(Program(other), Program(rounds)) for other in found):
                found.append(rounds)
        return found

    def test_none_to_three_rounds(self):
        rng = random.Random(2)
        for _ in range(8):
            kinds = rng.sample(EASY, rng.randint(0, 3))
            for longest in range(4):
                told = different_programs(kinds, longest)
                self.assertIsInstance(told, list)
                self.assertEqual(told, self.plainly(kinds, longest))

    def test_by_hand(self):
        self.assertEqual(different_programs([ODD, EVEN], 0), [()])
        self.assertEqual(different_programs([ODD, EVEN], 1), [(), (ODD,), (EVEN,)])
        self.assertEqual(different_programs((EVEN, ODD), 2), [(), (EVEN,), (ODD,), (EVEN, ODD), (ODD, EVEN)])
        self.assertEqual(len(different_programs([ODD, EVEN], 3)), 7)
        self.assertEqual(different_programs([], 3), [()])
        self.assertEqual(different_programs([LEFT], 2), [(), (LEFT,), (LEFT, LEFT)])
        one, other = ("every", 4, 1), ("every", 4, 3)
        self.assertEqual(different_programs([one, other], 2), [(), (one,), (other,), (one, other)])

    def test_five_kinds(self):
        kinds = [("every", 4, rest) for rest in range(4)] + [ODD]
        found = different_programs(kinds, 2)
        self.assertEqual(found[:6], [()] + [(kind,) for kind in kinds])
        self.assertNotIn((kinds[1], kinds[3]), found)


class Evidence(unittest.TestCase):
    def test_spoilt(self):
        program, kinds = Program([ODD, ODD, EVEN]), [ODD, EVEN]
        told = few_rounds(program, kinds)
        self.assertTrue(told.shows(program, kinds))
        for rounds in ((), (ODD,), (EVEN, ODD), (ODD, EVEN, EVEN), (ODD, ODD, EVEN), (ODD, ("every", 2, 2)),
                       (ODD, ("every", 7, 0)), (ODD,) * 13, (RIGHT, ODD), (LEFT, RIGHT)):
            self.assertFalse(FewRounds(rounds, told.against).shows(program, kinds), rounds)
        for fewer in told.against:
            less = {other: told.against[other] for other in told.against if other != fewer}
            self.assertFalse(FewRounds(told.rounds, less).shows(program, kinds))
            many, basin, place = told.against[fewer]
            for triple in ((many + 1, basin, place), (many, basin + 1, place), (many, basin, place + 1), (-many, 0, 0)):
                self.assertFalse(FewRounds(told.rounds, {**less, fewer: triple}).shows(program, kinds))
        self.assertFalse(FewRounds(told.rounds, {**told.against, (ODD, ODD): (3, 0, 0)}).shows(program, kinds))
        self.assertFalse(FewRounds(told.rounds, {**told.against, (RIGHT,): (3, 0, 0)}).shows(program, kinds))
        self.assertFalse(FewRounds(told.rounds, {}).shows(program, kinds))
        self.assertFalse(told.shows(program, [ODD, EVEN, RIGHT]))
        self.assertFalse(told.shows(program, [ODD]))
        self.assertFalse(told.shows(Program([ODD]), kinds))
        self.assertFalse(told.shows(Program([ODD, EVEN] * 2), kinds))
        self.assertTrue(told.shows(Program([ODD, EVEN, EVEN]), (ODD, EVEN)))

    def test_attributes(self):
        against = {(): (2, 0, 0)}
        told = FewRounds((ODD,), against)
        against[(ODD,)] = None
        self.assertEqual((told.rounds, told.against), ((ODD,), {(): (2, 0, 0)}))
        self.assertEqual(told, FewRounds((ODD,), {(): (2, 0, 0)}))
        self.assertNotEqual(told, FewRounds((EVEN,), {(): (2, 0, 0)}))
        self.assertNotEqual(told, FewRounds((ODD,), {}))
        self.assertNotEqual(told, (ODD,))
        self.assertIs(bool(FewRounds((), {})), True)
        told.rounds = (ODD, ODD)
        self.assertFalse(told.shows(Program([ODD]), [ODD]))

    def test_new_each_time(self):
        found = different_programs([ODD], 1)
        found.append(None)
        self.assertEqual(different_programs([ODD], 1), [(), (ODD,)])


class Refused(unittest.TestCase):
    def test_kinds_first(self):
        every = [("every", 4, rest) for rest in range(4)]
        for kinds, place in ((None, None), (ODD[0], None), ({}, None), (every + [ODD, EVEN], None), ([ODD, None], 1),
                             ([ODD, EVEN, ODD], 2), ([("every", 5, 1)], 0), ([("every", 2, True)], 0), ([["right"]], 0),
                             ([RIGHT, LEFT, RIGHT, None], 2), ((ODD, "odd"), 1), ([RIGHT, ("right", 1)], 1)):
            for call in (lambda: few_rounds(None, kinds), lambda: FewRounds((), {}).shows(None, kinds),
                         lambda: different_programs(kinds, None)):
                with self.assertRaises(BadProgram) as caught:
                    call()
                self.assertEqual(caught.exception.place, place)

    def test_then_programs_or_numbers(self):
        for wrong in (None, [ODD], (), "odd"):
            for call in (lambda: few_rounds(wrong, [RIGHT, LEFT]), lambda: FewRounds((), {}).shows(wrong, [RIGHT, LEFT])):
                with self.assertRaises(BadProgram) as caught:
                    call()
                self.assertIsNone(caught.exception.place)
        for longest in (-1, 4, True, None, "1", 1.0):
            self.assertRaises(BadStart, different_programs, [RIGHT, LEFT], longest)

    def test_mixed_last(self):
        for program, kinds in ((Program([RIGHT]), [LEFT]), (Program([LEFT]), [ODD, RIGHT]), (Program([]), [LEFT, RIGHT]),
                               (Program([LEFT, RIGHT]), [])):
            self.assertRaises(Mixed, few_rounds, program, kinds)
            self.assertRaises(Mixed, FewRounds((), {}).shows, program, kinds)
        for longest in range(4):
            self.assertRaises(Mixed, different_programs, [RIGHT, ODD, LEFT], longest)

    def test_all_rounds_can_be_kinds(self):
        for kind in ALL_ROUNDS:
            self.assertEqual(few_rounds(Program([kind]), [kind]).rounds, (kind,))
