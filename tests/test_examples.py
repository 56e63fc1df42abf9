"""The examples of the document's interface, and that all it lists is defined where it lists it."""

import ast
import unittest
from pathlib import Path

PACKAGE = Path(__file__).resolve().parent.parent / "weirlines"

LISTED = {
    "errors": {"WeirError": (), "BadRow": (), "BadWeir": (), "BadOrder": (), "BadNumber": (), "Unlike": (),
               "NotFalling": (), "NoOrder": ()},
    "rows": {"Row": ("__init__", "weirs", "heights", "sums", "reaches", "opened", "__len__", "__getitem__", "__iter__",
                     "__contains__", "__eq__"), "behind": None, "steps": None},
    "bounds": {"High": ("__init__", "shows", "__eq__"), "Low": ("__init__", "shows", "__eq__"), "highest": None,
               "lowest": None, "reaching": None, "nearing": None},
    "making": {"Best": ("__init__", "shows", "__eq__"), "best": None, "fewest": None},
    "loops": {"Settles": ("__init__", "shows", "__eq__", "__bool__"), "Tends": ("__init__", "shows", "__eq__", "__bool__"),
              "runs": None, "limit": None, "settling": None, "rounds_within": None},
    "sameness": {"Same": ("__init__", "shows", "__eq__", "__bool__"), "Differ": ("__init__", "shows", "__eq__", "__bool__"),
                 "judge_orders": None, "tidy": None},
    "weights": {"Longest": ("__init__", "shows", "__eq__"), "weight": None, "even_weight": None, "falls": None,
                "difference": None, "bar": None, "longest": None},
    "pouring": {"Poured": ("__init__", "shows", "__eq__", "__bool__"), "Rising": ("__init__", "shows", "__eq__", "__bool__"),
                "Over": ("__init__", "shows", "__eq__", "__bool__"), "Straight": ("__init__", "shows", "__eq__", "__bool__"),
                "poured": None, "judge_goal": None, "near_goal": None},
    "planerrors": {"BadProgram": (), "BadStart": (), "BadText": (), "NoName": (), "Claimed": (), "NothingDone": (),
                   "Mixed": ()},
    "programs": {"Program": ("__init__", "order", "done", "__len__", "__add__", "__eq__")},
    "turning": {"turned_back": None, "gives": None, "got": None, "is_even_handed": None},
    "allrows": {"SameAlways": ("__init__", "shows", "__eq__", "__bool__"),
                "FirstUnlike": ("__init__", "shows", "__eq__", "__bool__"),
                "Later": ("__init__", "shows", "__eq__", "__bool__"), "judge_programs": None, "tidy_program": None,
                "judge_later": None},
    "amounts": {"Recurrence": ("__init__", "shows", "value", "__len__", "__eq__", "__bool__"), "amount": None,
                "amounts": None, "recurrence": None},
    "plantexts": {"Plan": ("__init__", "__len__", "__contains__", "__eq__"), "read_plan": None, "write_plan": None},
    "books": {"Book": ("__init__", "__getitem__", "__contains__", "__len__", "__iter__", "titles", "claims", "put",
                       "claim_never", "claim_alike", "pour", "fill", "drop", "undo", "attempt")},
    "origins": {"Shares": ("__init__", "shows", "overtaken", "ahead", "__eq__", "__bool__"), "shares": None,
                "sources": None},
    "shapes": {"More": ("__init__", "shows", "__eq__", "__bool__"), "Less": ("__init__", "shows", "__eq__", "__bool__"),
               "Dominant": ("__init__", "shows", "__eq__", "__bool__"),
               "Rivals": ("__init__", "shows", "__eq__", "__bool__"), "judge_more": None, "judge_dominant": None},
    "seas": {"Coast": ("__init__", "__contains__", "__eq__", "opened"), "after": None, "inflow": None, "is_washed": None,
             "Cycle": ("__init__", "shows", "__eq__", "__bool__"), "cycle": None, "far_bounds": None},
    "guarding": {"Guard": ("__init__", "shows", "__eq__", "__bool__"), "guards": None, "loosened": None},
    "laps": {"lapped": None, "stretches": None, "lap_limit": None, "left_behind": None, "moved": None,
             "LapsDone": ("__init__", "shows", "__eq__", "__bool__"), "LapsLeft": ("__init__", "shows", "__eq__", "__bool__"),
             "judge_laps": None, "LapRecurrence": ("__init__", "shows", "__len__", "__eq__", "__bool__"),
             "lap_recurrence": None, "EvenAlways": ("__init__", "shows", "__eq__", "__bool__"),
             "Parted": ("__init__", "shows", "__eq__", "__bool__"), "judge_even": None},
    "fewrounds": {"FewRounds": ("__init__", "shows", "__eq__", "__bool__"), "few_rounds": None,
                  "different_programs": None},
    "rooms": {"counted": None, "room": None, "drain": None, "Room": ("__init__", "shows", "__eq__", "__bool__"),
              "share_out": None},
    "turns": {"Sinking": ("__init__", "shows", "__eq__"), "turns": None, "signs": None, "flats": None, "peaks": None,
              "turns_left": None, "sinking": None},
}


class Interface(unittest.TestCase):
    def test_defined_where_listed(self):
        for file, names in LISTED.items():
            tree = ast.parse((PACKAGE / f"{file}.py").read_text())
            found = {node.name: node for node in tree.body if isinstance(node, (ast.FunctionDef, ast.ClassDef))}
            for name, methods in names.items():
                self.assertIn(name, found, file)
                self.assertIsInstance(found[name], ast.FunctionDef if methods is None else ast.ClassDef)
                own = {node.name for node in found[name].body if isinstance(node, ast.FunctionDef)}
                self.assertLessEqual(set(methods or ()), own, name)


class Examples(unittest.TestCase):
    def test_rows(self):
        from weirlines.rows import Row, behind, steps
        row = Row((1, 1, 2), (0, 3, 1))
        self.assertEqual(
            [row.sums(), row.opened(2).volumes, behind(row, [1, 2]).heights(), [late[0] for late in steps(row, [1, 2, 1])]],
            [[(0, 1), (0, 1), (3, 1), (4, 1)], ((0, 1), (4, 3), (8, 3)), [(3, 2), (5, 6), (5, 6)], [(3, 2), (3, 2), (7, 6)]])

    def test_bounds(self):
        from weirlines.bounds import highest, lowest, reaching
        from weirlines.rows import Row
        row = Row((1, 1, 1, 1), (0, 0, 3, 0))
        self.assertEqual(
            [highest(row, 1).number, lowest(row, 3).number, reaching(row, 2), reaching(row, 3), reaching(row, 2, low=True)],
            [(1, 1), (3, 2), None, [], []])

    def test_making(self):
        from weirlines.making import best, fewest
        from weirlines.rows import Row
        row = Row((1, 1, 1), (0, 0, 4))
        self.assertEqual([best(row, 1, 2).number, best(row, 1, 4).order, fewest(row, 1, (5, 4), 8)],
                         [(1, 1), [2, 1, 2, 1], [2, 1, 2, 1]])

    def test_loops(self):
        from weirlines.loops import limit, rounds_within, runs, settling
        from weirlines.rows import Row
        row = Row((1, 1, 1), (4, 0, 2))
        self.assertEqual(
            [runs(row, [1]), limit(row, [2, 1]).volumes, settling(row, [2, 1]).width,
             rounds_within(row, [2, 1], (1, 10)), settling(row, [1]).rounds],
            [[(0, 2), (2, 3)], ((2, 1), (2, 1), (2, 1)), (1, 16), 3, 1])

    def test_sameness(self):
        from weirlines.rows import Row
        from weirlines.sameness import judge_orders, tidy
        self.assertEqual(
            [bool(judge_orders((1, 2, 1, 1), [3, 1, 1], [1, 3])), judge_orders((1, 1, 1), [1, 2], [2, 1]).basin,
             tidy(Row((1, 1, 1, 1), (0, 0, 0, 0)), [3, 1, 3, 2, 2, 1])],
            [True, 0, [1, 3, 2, 1]])

    def test_turns(self):
        from weirlines.rows import Row
        from weirlines.turns import peaks, sinking, turns_left
        row = Row((1, 1, 1, 1, 1), (2, 5, 1, 1, 3))
        self.assertEqual([peaks(row), sinking(row, [1, 4, 2]).numbers, turns_left(row)],
                         [[(1, 2), (4, 5)], [2, 1, 1, 0], {1: 1, 2: 2, 3: 2, 4: 2}])

    def test_weights(self):
        from weirlines.rows import Row
        from weirlines.weights import bar, falls, longest, weight
        row = Row((1, 1, 1), (0, 0, 4))
        self.assertEqual([weight(row), falls(row, [2, 1]), bar(row, 1), longest(row, 1).order],
                         [(16, 1), [(8, 1), (2, 1)], 21, [2, 1, 2]])

    def test_pouring(self):
        from weirlines.pouring import judge_goal, poured
        from weirlines.rows import Row
        row, goal = Row((1, 1, 1), (6, 0, 0)), Row((1, 1, 1), (3, 2, 1))
        told = judge_goal(row, goal)
        self.assertEqual(
            [poured(row, told.parts) == goal, judge_goal(row, Row((1, 1, 1), (2, 2, 2))).weir, judge_goal(goal, row).place],
            [True, 1, 1])

    def test_programs(self):
        from weirlines.programs import Program
        program = Program([("every", 2, 1), ("right",)])
        self.assertEqual([program.order(5), program.done([8, 0, 0, 4])],
                         [[1, 3, 1, 2, 3, 4], ((4, 1), (3, 1), (5, 2), (5, 2))])

    def test_allrows(self):
        from weirlines.allrows import judge_programs, tidy_program
        from weirlines.programs import Program
        odd, even, right = ("every", 2, 1), ("every", 2, 0), ("right",)
        self.assertEqual([judge_programs(Program([odd, odd]), Program([odd])).most,
                          tidy_program(Program([odd, odd, even, even])).rounds == (odd, even)], [15, True])
        found = judge_programs(Program([odd, even]), Program([right]))
        self.assertEqual([found.many, found.basin, found.place], [4, 0, 2])

    def test_amounts(self):
        from weirlines.amounts import amount, recurrence
        from weirlines.programs import Program
        found = recurrence(Program([("right",)]), "first", 0)
        self.assertEqual([amount(Program([("right",)]), "first", 0, 4), found.factors, found.value(9)],
                         [(1, 8), [(1, 2)], (1, 512)])

    def test_plantexts(self):
        from weirlines.plantexts import read_plan, write_plan
        plan = read_plan("areas 1 2 1 # three\nvolumes 4 0 1/2\norder to: 1 2\norder fro: 2(to 1) to\n"
                         "program p: 2(odd even) 3:0")
        self.assertEqual([plan.orders["fro"], len(plan), write_plan(plan).split("\n")[2]],
                         [[1, 2, 1, 1, 2, 1, 1, 2], 3, "order fro: 2(1 2 1) 1 2"])

    def test_turning(self):
        from weirlines.programs import Program
        from weirlines.turning import gives, got, is_even_handed, turned_back
        program = Program([("right",)])
        self.assertEqual(
            [turned_back(program).rounds, gives(program, 3, 0), got(program, 3, 2), is_even_handed(program, 3)],
            [(("left",),), ((1, 2), (1, 4), (1, 4)), ((1, 4), (1, 4), (1, 2)), False])

    def test_books(self):
        from weirlines.books import Book
        from weirlines.rows import Row
        book = Book()
        book.put("a", Row((1, 1, 1), (3, 0, 0)))
        self.assertEqual([book.claim_never("a", 1, 3).number, book.pour("a", 1, 2).volumes, book.claims()],
                         [(3, 1), ((3, 2), (3, 4), (3, 4)), [("never", "a", 1, (3, 1))]])

    def test_origins(self):
        from weirlines.origins import shares, sources
        from weirlines.rows import Row
        told = shares((1, 1, 1), [1, 2])
        self.assertEqual(
            [told.columns[0], told.overtaken(), told.ahead(1), sources(Row((1, 1, 1), (0, 0, 0)), [2, 1], 0)],
            [((1, 2), (1, 4), (1, 4)), None, [(1, 2), (1, 2), (0, 1)], (0, 3)])

    def test_shapes(self):
        from weirlines.shapes import judge_dominant, judge_more
        self.assertEqual(
            [judge_more((1, 1, 1), [2, 1], [1, 2], 1, "rising").gains, bool(judge_more((1, 1, 1), [2, 1], [1, 2], 1)),
             judge_dominant((1, 1, 1), 1, 2, "rising").order],
            [[(0, 1), (0, 1), (1, 4)], False, [2, 1]])

    def test_seas(self):
        from weirlines.rows import Row
        from weirlines.seas import Coast, cycle, far_bounds
        coast = Coast(Row((1, 1), (0, 0)), 6, 0)
        self.assertEqual([cycle(coast, [0, 1, 2]).volumes, cycle(coast, [0, 1, 2]).flow,
                          far_bounds(Coast(Row((1, 1), (3, 0)), 1), 1)],
                         [((3, 1), (0, 1)), (3, 1), ((0, 1), (3, 2))])

    def test_guarding(self):
        from weirlines.guarding import guards, loosened
        from weirlines.rows import Row
        row = Row((1, 1, 1, 1), (0, 1, 0, 8))
        found = guards(row, [1, 3], 2, 2)
        self.assertEqual(
            [found.locks, found.against, guards(row, [1], 2, 1), loosened(Row((1, 1, 1), (0, 0, 3), [1, 2]), 1, 1)],
            [[3], {(): (9, 2)}, None, [1, 2]])

    def test_laps(self):
        from weirlines.laps import judge_even, judge_laps, lap_recurrence, left_behind, stretches
        from weirlines.programs import Program
        odd, even = ("every", 2, 1), ("every", 2, 0)
        self.assertEqual(
            [stretches(Program([odd]), 5), judge_laps(Program([odd]), 5).laps, judge_laps(Program([odd, even]), 3).place],
            [[(0, 2), (2, 4), (4, 5)], 1, 0])
        self.assertEqual(
            [left_behind(Program([odd, even]), 3, 1), lap_recurrence(Program([odd, even]), [4, 0, 0], 0).factors],
            [(1, 3), [(-1, 4), (5, 4)]])
        self.assertEqual([judge_even(Program([odd, even])).rounds, judge_even(Program([("every", 3, 1), even])).weir],
                         [[1, 0], 3])

    def test_fewrounds(self):
        from weirlines.fewrounds import different_programs, few_rounds
        from weirlines.programs import Program
        odd, even = ("every", 2, 1), ("every", 2, 0)
        found = few_rounds(Program([odd, odd, even]), [odd, even])
        self.assertEqual([found.rounds, found.against[()], len(different_programs([odd, even], 3))],
                         [(("every", 2, 1), ("every", 2, 0)), (2, 0, 0), 7])

    def test_rooms(self):
        from weirlines.rooms import counted, drain, room, share_out
        from weirlines.rows import Row
        row = Row((1, 1, 1, 1), (0, 0, 2, 2))
        self.assertEqual([counted(row, 1), room(row, 3, 1, 2).volume, room(row, 0, 4, 4).volume, drain(row, 3, 2, 1),
                          share_out(row, {1: 1, 3: 4})],
                         [[(1, 4), (1, 4), (1, 4), (1, 4)], (4, 1), (0, 1), None, [(0, 1), (0, 1), (0, 1), (0, 1)]])
