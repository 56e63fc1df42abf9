"""The examples of the document's interface, and that all it lists is defined where it lists it."""

import ast
import unittest
from pathlib import Path

PACKAGE = Path(__file__).resolve().parent.parent / "weirlines"

LISTED = {
    "errors": {"WeirError": (), "BadRow": (), "BadWeir": (), "BadOrder": (), "BadNumber": (), "Unlike": (),
               "NotFalling": (), "NoOrder": ()},
    "rows": {"Row": ("__init__", "weirs", "heights", "sums", "reaches", "opened", "__len__", "__getitem__", "__iter__",
                     "__contains__", "__eq__"), "behind": None, "steps": None},
    "bounds": {"High": ("__init__", "shows", "__eq__"), "Low": ("__init__", "shows", "__eq__"), "highest": None,
               "lowest": None, "reaching": None, "nearing": None},
    "making": {"Best": ("__init__", "shows", "__eq__"), "best": None, "fewest": None},
    "loops": {"Settles": ("__init__", "shows", "__eq__", "__bool__"), "Tends": ("__init__", "shows", "__eq__", "__bool__"),
              "runs": None, "limit": None, "settling": None, "rounds_within": None},
    "sameness": {"Same": ("__init__", "shows", "__eq__", "__bool__"), "Differ": ("__init__", "shows", "__eq__", "__bool__"),
                 "judge_orders": None, "tidy": None},
    "weights": {"Longest": ("__init__", "shows", "__eq__"), "weight": None, "even_weight": None, "falls": None,
                "difference": None, "bar": None, "longest": None},
    "pouring": {"Poured": ("__init__", "shows", "__eq__", "__bool__"), "Rising": ("__init__", "shows", "__eq__", "__bool__"),
                "Over": ("__init__", "shows", "__eq__", "__bool__"), "Straight": ("__init__", "shows", "__eq__", "__bool__"),
                "poured": None, "judge_goal": None, "near_goal": None},
    "planerrors": {"BadProgram": (), "BadStart": (), "BadText": (), "NoName": (), "Claimed": (), "NothingDone": (),
                   "Mixed": ()},
    "programs": {"Program": ("__init__", "order", "done", "__len__", "__add__", "__eq__")},
    "turning": {"turned_back": None, "gives": None, "got": None, "is_even_handed": None},
    "allrows": {"SameAlways": ("__init__", "shows", "__eq__", "__bool__"),
                "FirstUnlike": ("__init__", "shows", "__eq__", "__bool__"),
                "Later": ("__init__", "shows", "__eq__", "__bool__"), "judge_programs": None, "tidy_program": None,
                "judge_later": None},
    "amounts": {"Recurrence": ("__init__", "shows", "value", "__len__", "__eq__", "__bool__"), "amount": None,
                "amounts": None, "recurrence": None},
    "plantexts": {"Plan": ("__init__", "__len__", "__contains__", "__eq__"), "read_plan": None, "write_plan": None},
    "turns": {"Sinking": ("__init__", "shows", "__eq__"), "turns": None, "signs": None, "flats": None, "peaks": None,
              "turns_left": None, "sinking": None},
}


class Interface(unittest.TestCase):
    def test_defined_where_listed(self):
        for file, names in LISTED.items():
            tree = ast.parse((PACKAGE / f"{file}.py").read_text())
            found = {node.name: node for node in tree.body if isinstance(node, (ast.FunctionDef, ast.ClassDef))}
            for name, methods in names.items():
                self.assertIn(name, found, file)
                self.assertIsInstance(found[name], ast.FunctionDef if methods is None else ast.ClassDef)
                own = {node.name for node in found[name].body if isinstance(node, ast.FunctionDef)}
                self.assertLessEqual(set(methods or ()), own, name)


class Examples(unittest.TestCase):
    def test_rows(self):
        from weirlines.rows import Row, behind, steps
        row = Row((1, 1, 2), (0, 3, 1))
        self.assertEqual(
            [row.sums(), row.opened(2).volumes, behind(row, [1, 2]).heights(), [late[0] for late in steps(row, [1, 2, 1])]],
            [[(0, 1), (0, 1), (3, 1), (4, 1)], ((0, 1), (4, 3), (8, 3)), [(3, 2), (5, 6), (5, 6)], [(3, 2), (3, 2), (7, 6)]])

    def test_bounds(self):
        from weirlines.bounds import highest, lowest, reaching
        from weirlines.rows import Row
        row = Row((1, 1, 1, 1), (0, 0, 3, 0))
        self.assertEqual(
            [highest(row, 1).number, lowest(row, 3).number, reaching(row, 2), reaching(row, 3), reaching(row, 2, low=True)],
            [(1, 1), (3, 2), None, [], []])

    def test_making(self):
        from weirlines.making import best, fewest
        from weirlines.rows import Row
        row = Row((1, 1, 1), (0, 0, 4))
        self.assertEqual([best(row, 1, 2).number, best(row, 1, 4).order, fewest(row, 1, (5, 4), 8)],
                         [(1, 1), [2, 1, 2, 1], [2, 1, 2, 1]])

    def test_loops(self):
        from weirlines.loops import limit, rounds_within, runs, settling
        from weirlines.rows import Row
        row = Row((1, 1, 1), (4, 0, 2))
        self.assertEqual(
            [runs(row, [1]), limit(row, [2, 1]).volumes, settling(row, [2, 1]).width,
             rounds_within(row, [2, 1], (1, 10)), settling(row, [1]).rounds],
            [[(0, 2), (2, 3)], ((2, 1), (2, 1), (2, 1)), (1, 16), 3, 1])

    def test_sameness(self):
        from weirlines.rows import Row
        from weirlines.sameness import judge_orders, tidy
        self.assertEqual(
            [bool(judge_orders((1, 2, 1, 1), [3, 1, 1], [1, 3])), judge_orders((1, 1, 1), [1, 2], [2, 1]).basin,
             tidy(Row((1, 1, 1, 1), (0, 0, 0, 0)), [3, 1, 3, 2, 2, 1])],
            [True, 0, [1, 3, 2, 1]])

    def test_turns(self):
        from weirlines.rows import Row
        from weirlines.turns import peaks, sinking, turns_left
        row = Row((1, 1, 1, 1, 1), (2, 5, 1, 1, 3))
        self.assertEqual([peaks(row), sinking(row, [1, 4, 2]).numbers, turns_left(row)],
                         [[(1, 2), (4, 5)], [2, 1, 1, 0], {1: 1, 2: 2, 3: 2, 4: 2}])

    def test_weights(self):
        from weirlines.rows import Row
        from weirlines.weights import bar, falls, longest, weight
        row = Row((1, 1, 1), (0, 0, 4))
        self.assertEqual([weight(row), falls(row, [2, 1]), bar(row, 1), longest(row, 1).order],
                         [(16, 1), [(8, 1), (2, 1)], 21, [2, 1, 2]])

    def test_pouring(self):
        from weirlines.pouring import judge_goal, poured
        from weirlines.rows import Row
        row, goal = Row((1, 1, 1), (6, 0, 0)), Row((1, 1, 1), (3, 2, 1))
        told = judge_goal(row, goal)
        self.assertEqual(
            [poured(row, told.parts) == goal, judge_goal(row, Row((1, 1, 1), (2, 2, 2))).weir, judge_goal(goal, row).place],
            [True, 1, 1])

    def test_programs(self):
        from weirlines.programs import Program
        program = Program([("every", 2, 1), ("right",)])
        self.assertEqual([program.order(5), program.done([8, 0, 0, 4])],
                         [[1, 3, 1, 2, 3, 4], ((4, 1), (3, 1), (5, 2), (5, 2))])

    def test_allrows(self):
        from weirlines.allrows import judge_programs, tidy_program
        from weirlines.programs import Program
        odd, even, right = ("every", 2, 1), ("every", 2, 0), ("right",)
        self.assertEqual([judge_programs(Program([odd, odd]), Program([odd])).most,
                          tidy_program(Program([odd, odd, even, even])).rounds == (odd, even)], [15, True])
        found = judge_programs(Program([odd, even]), Program([right]))
        self.assertEqual([found.many, found.basin, found.place], [4, 0, 2])

    def test_amounts(self):
        from weirlines.amounts import amount, recurrence
        from weirlines.programs import Program
        found = recurrence(Program([("right",)]), "first", 0)
        self.assertEqual([amount(Program([("right",)]), "first", 0, 4), found.factors, found.value(9)],
                         [(1, 8), [(1, 2)], (1, 512)])

    def test_plantexts(self):
        from weirlines.plantexts import read_plan, write_plan
        plan = read_plan("areas 1 2 1 # three\nvolumes 4 0 1/2\norder to: 1 2\norder fro: 2(to 1) to\n"
                         "program p: 2(odd even) 3:0")
        self.assertEqual([plan.orders["fro"], len(plan), write_plan(plan).split("\n")[2]],
                         [[1, 2, 1, 1, 2, 1, 1, 2], 3, "order fro: 2(1 2 1) 1 2"])

    def test_turning(self):
        from weirlines.programs import Program
        from weirlines.turning import gives, got, is_even_handed, turned_back
        program = Program([("right",)])
        self.assertEqual(
            [turned_back(program).rounds, gives(program, 3, 0), got(program, 3, 2), is_even_handed(program, 3)],
            [(("left",),), ((1, 2), (1, 4), (1, 4)), ((1, 4), (1, 4), (1, 2)), False])
