"""Point [14]."""

import random
import unittest

from tests.brute import ALL_ROUNDS
from weirlines.errors import BadRow
from weirlines.planerrors import BadText
from weirlines.plantexts import Plan, read_plan, write_plan
from weirlines.programs import Program
from weirlines.rows import Row

ODD, EVEN, RIGHT, LEFT = ("every", 2, 1), ("every", 2, 0), ("right",), ("left",)
HEAD = "areas 1 2 1\nvolumes 4 0 1/2\n"
LOCKED = "areas 1 2 1 1\nvolumes 4 0 1/2 7\nlocks 2\n"


def order_of(body, head=HEAD):
    """The openings of an order that is told behind one with the name `a`, of the weirs 1 and 2, and an empty one."""
    return read_plan(f"{head}order a: 1 2\norder none:\norder x: {body}").orders["x"]


def rounds_of(body):
    return read_plan(f"{HEAD}program a: odd even\nprogram none:\nprogram x: {body}").programs["x"].rounds


class Reading(unittest.TestCase):
    def test_row(self):
        plan = read_plan("areas 1 20 1000\nvolumes 4 0 2/4\nlocks 1 2")
        self.assertEqual(plan.row, Row((1, 20, 1000), (4, 0, (1, 2)), [1, 2]))
        self.assertEqual((plan.orders, plan.programs, len(plan)), ({}, {}, 0))
        self.assertEqual(read_plan("areas 1\nvolumes 0").row, Row((1,), (0,)))
        self.assertEqual(read_plan("areas 7\nvolumes 999999/999998").row[0], (999999, 999998))
        self.assertEqual(len(read_plan("areas" + " 3" * 24 + "\nvolumes" + " 0/1" * 24).row), 24)
        self.assertEqual(read_plan(LOCKED).row.locks, (2,))

    def test_blanks_and_remarks(self):
        plan = read_plan("# a plan\n\n   \n  areas   1 2   1# three\n #\nvolumes 4 0 1  /  2 # 1 2 3\n\norder x :1   2( 2 1 )\n"
                         "program p:odd 3  :  1 2(even)\n\n# the end")
        self.assertEqual(plan.row, Row((1, 2, 1), (4, 0, (1, 2))))
        self.assertEqual(plan.orders, {"x": [1, 2, 1, 2, 1]})
        self.assertEqual(plan.programs, {"p": Program([ODD, ("every", 3, 1), EVEN, EVEN])})

    def test_no_spaces_needed(self):
        plan = read_plan("areas1 2 1\nvolumes4 0 1/2\nlocks2\norder x:1 0()1(1)1\nprogram y:odd2(3:1even)")
        self.assertEqual(plan.row, Row((1, 2, 1), (4, 0, (1, 2)), [2]))
        self.assertEqual(plan.orders, {"x": [1, 1, 1]})
        self.assertEqual(plan.programs["y"].rounds, (ODD, ("every", 3, 1), EVEN, ("every", 3, 1), EVEN))

    def test_orders(self):
        for body, told in (("", []), ("1 2 1", [1, 2, 1]), ("2(1)", [1, 1]), ("3(1 2)", [1, 2] * 3), ("0(1 2)", []),
                           ("0()", []), ("5()", []), ("400()", []), ("1(1)2", [1, 2]), ("a a", [1, 2, 1, 2]),
                           ("2(a 2(1) none)1", [1, 2, 1, 1, 1, 2, 1, 1, 1]), ("none", []), ("2 (1) 2(2)", [1, 1, 2, 2]),
                           ("2(2(2(1) 2) 1)", [1, 1, 2, 1, 1, 2, 1] * 2)):
            self.assertEqual(order_of(body), told, body)
        self.assertEqual(order_of("1 3", LOCKED.replace("locks 2\n", "")), [1, 3])

    def test_programs(self):
        for body, told in (("", ()), ("odd even right left", (ODD, EVEN, RIGHT, LEFT)), ("2:1 2:0 3:2 4:3 4:0",
                           (ODD, EVEN, ("every", 3, 2), ("every", 4, 3), ("every", 4, 0))), ("a right a", (ODD, EVEN, RIGHT, ODD, EVEN)),
                           ("12()", ()), ("0(right)", ()), ("2(a none 2(left))3:0", (ODD, EVEN, LEFT, LEFT) * 2 + (("every", 3, 0),)),
                           ("2(3:1)3:1", (("every", 3, 1),) * 3)):
            self.assertEqual(rounds_of(body), told, body)

    def test_loops_within_one_another(self):
        self.assertEqual(order_of("1(" * 8 + "1" + ")" * 8), [1])
        self.assertEqual(order_of("2(" * 8 + "1" + ")" * 8), [1] * 256)
        self.assertEqual(order_of("1(" * 8 + ")" * 8 + "1(" * 8 + ")" * 8), [])
        self.assertEqual(order_of("1(1(1(1(1(1(1(1(1) 1(2)) 1(1(1))))))))"), [1, 2, 1])
        self.assertEqual(rounds_of("1(" * 8 + "odd" + ")" * 8), (ODD,))

    def test_as_many_as_there_may_be(self):
        self.assertEqual(order_of("1 " * 400), [1] * 400)
        self.assertEqual(order_of("400(1)"), [1] * 400)
        self.assertEqual(order_of("20(20(1))"), [1] * 400)
        self.assertEqual(order_of("200(a)"), [1, 2] * 200)
        self.assertEqual(order_of("0(400(1)) 400(2)"), [2] * 400)
        self.assertEqual(rounds_of("odd " * 12), (ODD,) * 12)
        self.assertEqual(rounds_of("6(a)"), (ODD, EVEN) * 6)
        self.assertEqual(rounds_of("0(12(odd))3(4(left))"), (LEFT,) * 12)
        names = "abcdefghijkl"
        plan = read_plan(HEAD + "".join([f"{'order' if name < 'g' else 'program'} {name}:\n" for name in names]))
        self.assertEqual(len(plan), 12)

    def test_names(self):
        plan = read_plan(HEAD + "program p:\norder zzzzzzzzzz: 1\norder b: zzzzzzzzzz\nprogram ab: p\norder orders:")
        self.assertEqual(list(plan.orders), ["b", "orders", "zzzzzzzzzz"])
        self.assertEqual(list(plan.programs), ["ab", "p"])
        for name in ("p", "b", "ab", "zzzzzzzzzz"):
            self.assertIs(name in plan, True)
        for name in ("", "c", "P", 3, None, "areas", ["b"], ("b",)):
            self.assertIs(name in plan, False)
        self.assertEqual(len(plan), 5)

    def test_same_names_in_orders_and_programs_stay_apart(self):
        plan = read_plan(HEAD + "order x: 1\nprogram y: odd\norder z: x\nprogram w: y")
        self.assertEqual((plan.orders["z"], plan.programs["w"].rounds), ([1], (ODD,)))


class Refused(unittest.TestCase):
    def check(self, text, line, column):
        with self.assertRaises(BadText) as caught:
            read_plan(text)
        self.assertEqual((caught.exception.line, caught.exception.column), (line, column), text)

    def check_order(self, body, column, head=HEAD):
        """The column in an order that is told behind one with the name `a`, counted from behind the colon and a blank."""
        self.check(f"{head}order a: 1 2\norder x: {body}", head.count("\n") + 2, column + 9)

    def check_program(self, body, column):
        self.check(f"{HEAD}order o: 1 2\nprogram a: odd even\nprogram x: {body}", 5, column + 11)

    def test_no_string(self):
        for text in (None, 3, b"areas 1", ["areas 1", "volumes 1"], ("areas 1",)):
            self.check(text, 0, 0)

    def test_missing_lines(self):
        for text, line in (("", 2), ("\n", 3), ("# a\n\n", 4), ("areas 1", 2), ("areas 1\n", 3), ("areas 1\n# volumes 1", 3)):
            self.check(text, line, 1)

    def test_lines_in_another_order(self):
        for text, line, column in (("volumes 1\nareas 1", 1, 1), ("  order x:", 1, 3), ("areas 1\n locks 1", 2, 2),
                                   ("areas 1\nareas 1", 2, 1), ("areas 1\nvolumes 1\nvolumes 1", 3, 1),
                                   ("areas 1 1\nvolumes 1 1\norder x:\nlocks 1", 4, 1), (LOCKED + "locks 1", 4, 1),
                                   (HEAD + "areas 1", 3, 1), (HEAD + "x: 1", 3, 1), (HEAD + " # a\n  3", 4, 3),
                                   (HEAD + ":", 3, 1), (HEAD + "orders x: 1", 3, 1)):
            self.check(text, line, column)

    def test_areas(self):
        for line, column in (("areas", 6), ("areas  # none", 14), ("area 1", 1), ("Areas 1", 1), ("areas 0", 7), ("areas 1 1001", 9), ("areas 1 0", 9), ("areas " + "9" * 5000, 7),
                             ("areas 01", 7), ("areas 1 2 x", 11), ("areas 1/2", 8), ("areas: 1", 6), ("areas 1,2", 8),
                             ("areas -1", 7), ("areas 1 1000000", 9), ("areas\t1", 6), ("areas 1\r", 8), ("areas 1 areas", 9),
                             ("areas" + " 1" * 25, 55), ("areasx 1", 1), ("3 areas", 1)):
            self.check(line + "\nvolumes 1", 1, column)

    def test_volumes(self):
        for line, column in (("volumes", 8), ("volumes 1", 10), ("volumes 1 # 2", 14), ("volumes 1 2 3", 13), ("volumes 1 2/", 13),
                             ("volumes 1 2/0", 13), ("volumes 1 2/3/4", 14), ("volumes /2 1", 9), ("volumes 1 x", 11),
                             ("volumes 1 2/x", 13), ("volumes 1 2/03", 13), ("volumes 1 1000000", 11), ("volume 1 2", 1),
                             ("volumes 1 2/1000000", 13), ("volumes 1/ 2", 13), ("volumes 1 -2", 11), ("volumes 1 2.5", 12),
                             ("volumes 1 2 order", 13), ("volumes 00 1", 9)):
            self.check("areas 1 1\n" + line, 2, column)

    def test_locks(self):
        for line, column in (("locks", 6), ("locks # 1", 10), ("locks 0", 7), ("locks 3", 7), ("locks 2 1", 9), ("locks 1 1", 9),
                             ("locks 1 2 3", 11), ("locks 1 x", 9), ("locks: 1", 6), ("lock 1", 1), ("locks 01", 7)):
            self.check(HEAD + line, 3, column)
        self.check("areas 1 1 1 1\nvolumes 1 1 1 1\nlocks 1 3 2", 3, 11)
        self.check("areas 1\nvolumes 1\nlocks 1", 3, 7)
        self.check("areas 1\nvolumes 1\nlocks", 3, 6)

    def test_heads(self):
        for line, column in (("order", 6), ("order x", 8), ("order x # :", 12), ("order :", 7), ("order 3: 1", 7),
                             ("order abcdefghijk: 1", 7), ("order x 1", 9), ("order x; 1", 8), ("order xY: 1", 8),
                             ("order odd:", 7), ("order locks:", 7), ("order program:", 7), ("program", 8), ("program p", 10),
                             ("program a: left", 9), ("program left: left", 9), ("order a:", 7), ("order é:", 7),
                             ("order a b:", 7), ("order b b:", 9)):
            self.check(HEAD + "order a: 1\n" + line, 4, column)
        for name in "areas volumes locks order program odd even right left".split():
            self.check(f"{HEAD}order {name}: 1", 3, 7)
        self.check(HEAD + "program p:\norder p:", 4, 7)

    def test_orders(self):
        for body, column in (("0", 1), ("3", 1), ("1 01", 3), ("1 1000000", 3), ("x", 1), ("b", 1), ("1 odd", 3), ("1:2", 2),
                             ("1/2", 2), ("(1)", 1), ("1 )", 3), ("2(1", 4), ("2(1 # )", 8), ("2(1))", 5), ("2(", 3), ("2(1 x)", 5),
                             ("a(1)", 2), ("1.", 2), ("2 ( 3 )", 5), ("1 order", 3), ("001(1)", 1), ("1 A", 3), ("12", 1),
                             ("1 2\t", 4), ("1 2 \r", 5), ("2(a 3)", 5)):
            self.check_order(body, column)

    def test_orders_of_locked_rows(self):
        self.check(LOCKED + "order x: 1 3 2", 4, 14)
        self.check(LOCKED + "order x: 1 4", 4, 12)
        self.check("areas 5\nvolumes 1\norder x: 1", 3, 10)

    def test_programs(self):
        for body, column in (("1", 1), ("5:1", 1), ("1:0", 1), ("3", 2), ("3 # :1", 7), ("3:", 3), ("3:3", 3), ("2:2", 3), ("4:03", 3),
                             ("3 1", 3), ("3:odd", 3), ("x", 1), ("o", 1), ("odd b", 5), ("odd:1", 4), ("3:1:1", 4), ("2(3)", 4),
                             ("3:1(odd)", 4), ("right order", 7), ("2(odd", 6), ("odd)", 4), ("0", 1), ("2(odd) 13", 8),
                             ("3/1", 2)):
            self.check_program(body, column)

    def test_loops(self):
        self.check_order("401()", 1)
        self.check_order("1 401(1)", 3)
        self.check_order("1000000()", 1)
        self.check_program("13()", 1)
        self.check_program("odd 13(odd)", 5)
        self.check_order("1(" * 9 + "1" + ")" * 9, 18)
        self.check_program("1(" * 9 + ")" * 9, 18)
        self.check_order("1(" * 8 + "1 (1)" + ")" * 8, 19)
        self.check_order("1(" * 8 + "401 (", 17)
        self.check_order("1(" * 8 + ")" * 7, 24)

    def test_too_many(self):
        self.check_order("1 " * 401, 801)
        self.check_order("400(1) 2", 8)
        self.check_order("399(1) a", 8)
        self.check_order("399(1) 2(2)", 8)
        self.check_order("2(201(1))", 1)
        self.check_order("1 1 2(10(20(1)))", 5)
        self.check_order("0(400(1) 2)", 10)
        self.check_order("0(399(1) 2(2))", 10)
        self.check_order("1 0(201(a) 1)", 5)
        self.check_program("odd " * 13, 49)
        self.check_program("6(a) left", 6)
        self.check_program("5(a) odd a", 10)
        self.check_program("2(7(left))", 1)
        self.check_program("0(12(left) odd)", 12)
        self.check_program("11(odd) 3:1 2:1", 13)

    def test_loops_that_stand_for_nothing_are_never_too_many(self):
        self.assertEqual(order_of("400(1) 0(2) none 400() 0(400(2))"), [1] * 400)

    def test_too_many_names(self):
        text = HEAD + "".join([f"order {name}:\n" for name in "abcdefghijkl"])
        self.check(text + "\n  order m: 1", 16, 3)
        self.check(text + "program m:", 15, 1)
        text = HEAD + "".join([f"order {name}:\nprogram {name}{name}:\n" for name in "abcdef"])
        self.check(text + "order m:", 15, 1)

    def test_the_first_that_does_not_fit(self):
        self.check("areas 1 x 2\nvolumes", 1, 9)
        self.check(HEAD + "order x: 1 3 $ x\norder x: 1", 3, 12)
        self.check(HEAD + "order x: 1 $ 3\norder x: 1", 3, 12)
        self.check(HEAD + "order x: 3 (1", 3, 14)
        self.check("$", 1, 1)


class Writing(unittest.TestCase):
    def test_each_line(self):
        plan = Plan(Row((1, 20, 3), (4, (6, 4), (7, 7)), [2, 1]), {"b": [], "a": [1]}, {"z": Program([]), "y": Program([ODD])})
        self.assertEqual(write_plan(plan),
                         "areas 1 20 3\nvolumes 4 3/2 1\nlocks 1 2\norder a: 1\norder b:\nprogram y: odd\nprogram z:\n")
        self.assertEqual(write_plan(Plan(Row((5,), ((0, 3),)), {}, {})), "areas 5\nvolumes 0\n")

    def test_rounds(self):
        plan = Plan(Row((5,), (0,)), {}, {"p": Program([ODD, EVEN, RIGHT, LEFT, ("every", 3, 0), ("every", 3, 2), ("every", 4, 1)])})
        self.assertEqual(write_plan(plan).split("\n")[2], "program p: odd even right left 3:0 3:2 4:1")

    def test_loops(self):
        for openings, told in (([1, 2], "1 2"), ([1, 1], "2(1)"), ([2] * 400, "400(2)"), ([1, 2, 1, 2], "2(1 2)"),
                               ([1, 2, 1, 2, 1], "2(1 2) 1"), ([1, 1, 2, 1, 1, 2], "2(1 1 2)"), ([1, 1, 1, 1, 2], "4(1) 2"),
                               ([1, 1, 2, 2], "2(1) 2(2)"), ([1, 2, 2, 1, 2, 2, 2], "2(1 2 2) 2"), ([1, 1, 1, 2, 1, 1, 1, 2], "2(1 1 1 2)"),
                               ([2, 1, 1, 2, 1, 1], "2(2 1 1)"), ([1, 2, 1, 2, 1] * 2, "2(1 2 1 2 1)"),
                               ([1, 2, 1, 2, 1, 2, 3], "3(1 2) 3"), ([1, 2] * 6, "6(1 2)"), ([3, 1, 2, 1, 2], "3 2(1 2)"),
                               ([1, 1, 1, 2, 1, 1, 2], "3(1) 2 2(1) 2")):
            plan = Plan(Row((1, 1, 1, 1), (0, 0, 0, 0)), {"x": openings}, {})
            self.assertEqual(write_plan(plan).split("\n")[2], "order x: " + told)
            self.assertEqual(read_plan(write_plan(plan)), plan)
        plan = Plan(Row((5,), (0,)), {}, {"p": Program([ODD, EVEN, ODD, EVEN, LEFT, ("every", 3, 0), ("every", 3, 0)])})
        self.assertEqual(write_plan(plan).split("\n")[2], "program p: 2(odd even) left 2(3:0)")

    def test_read_and_written_again(self):
        rng = random.Random(1)
        for _ in range(150):
            many = rng.randint(1, 5)
            row = Row(tuple(rng.randint(1, 1000) for _ in range(many)),
                      tuple((rng.randint(0, 999999), rng.randint(1, 20)) for _ in range(many)),
                      [weir for weir in range(1, many) if rng.random() < 0.3])
            orders = {name: [rng.choice(row.weirs()) for _ in range(rng.randint(0, 30))] if row.weirs() else []
                      for name in ("b", "ordera", "long")[:rng.randint(0, 3)]}
            programs = {name: Program([rng.choice(ALL_ROUNDS[rng.randint(0, 9):]) for _ in range(rng.randint(0, 12))])
                        for name in ("programs", "c", "a")[:rng.randint(0, 3)]}
            plan = Plan(row, orders, programs)
            text = write_plan(plan)
            self.assertEqual(read_plan(text), plan)
            self.assertEqual(write_plan(read_plan(text)), text)
            self.assertEqual((text[-1], "  " in text, " \n" in text), ("\n", False, False))


class Plans(unittest.TestCase):
    ROW = Row((1, 1), (2, 0))

    def test_equal(self):
        told = Plan(self.ROW, {"a": [1]}, {"b": Program([ODD])})
        self.assertEqual(told, read_plan("areas 1 1\nvolumes 2 0\nprogram b: odd\norder a: 1"))
        for other in (Plan(Row((1, 1), (2, 1)), {"a": [1]}, {"b": Program([ODD])}), Plan(self.ROW, {"a": []}, {"b": Program([ODD])}),
                      Plan(self.ROW, {"a": [1]}, {"b": Program([EVEN])}), Plan(self.ROW, {"c": [1]}, {"b": Program([ODD])}),
                      Plan(self.ROW, {"a": [1]}, {}), None, 3):
            self.assertNotEqual(told, other)

    def test_ascending_and_copied(self):
        orders, programs = {"z": [1], "y": []}, {"x": Program([]), "w": Program([ODD])}
        plan = Plan(self.ROW, orders, programs)
        self.assertEqual((list(plan.orders), list(plan.programs), len(plan)), (["y", "z"], ["w", "x"], 4))
        orders["z"].append(1)
        orders["u"] = []
        programs.clear()
        self.assertEqual((plan.orders, list(plan.programs)), ({"y": [], "z": [1]}, ["w", "x"]))
        self.assertEqual(Plan(self.ROW, {"a": (1, 1)}, {}).orders, {"a": [1, 1]})

    def test_orders_read_are_their_own(self):
        plan = read_plan(HEAD + "order a: 1\norder b: a")
        plan.orders["a"].append(2)
        self.assertEqual(plan.orders["b"], [1])

    def test_no_row(self):
        self.assertRaises(BadRow, Plan, None, {}, {})
