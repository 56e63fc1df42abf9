"""Point [15]."""

import random
import unittest

from weirlines.allrows import FirstUnlike, SameAlways, judge_programs
from weirlines.books import Book
from weirlines.bounds import High, highest
from weirlines.errors import BadNumber, BadOrder, BadRow
from weirlines.planerrors import BadProgram, Claimed, Mixed, NoName, NothingDone
from weirlines.programs import Program
from weirlines.rows import Row, behind

ODD, EVEN, RIGHT, LEFT = ("every", 2, 1), ("every", 2, 0), ("right",), ("left",)
NAMES = ["b", "a", "abcdefghij", "z", "x", "y", "c", "d", "e", "f", "g", "h"]
THREE = Row((1, 1, 1), (3, 0, 0))


def filled(**things):
    book = Book()
    for name, thing in things.items():
        book.put(name, thing)
    return book


def state(book):
    """All that can be seen of a book."""
    return [(name, book[name]) for name in book], book.claims()


def undone(book):
    """All that can be seen of a book while all is undone that can be."""
    found = [state(book)]
    while True:
        try:
            book.undo()
        except (NothingDone, Claimed) as end:
            return found, type(end)
        found.append(state(book))


class Same(unittest.TestCase):
    def refused(self, error, book, call, **attributes):
        before = state(book)
        with self.assertRaises(error) as caught:
            call()
        for name, told in attributes.items():
            self.assertEqual(getattr(caught.exception, name), told)
        self.assertEqual(state(book), before)


class Holding(Same):
    def test_empty(self):
        book = Book()
        self.assertEqual((len(book), list(book), book.titles(), book.claims(), "a" in book), (0, [], [], [], False))
        self.assertEqual(Book.MOST, 12)
        self.assertEqual(book.MOST, 12)

    def test_names_in_the_order_in_which_they_came(self):
        book = Book()
        for at, name in enumerate(NAMES):
            self.assertIsNone(book.put(name, Program([ODD] * at) if at % 2 else Row((1,), (at,))))
            self.assertEqual(list(book), NAMES[:at + 1])
            self.assertEqual(len(book), at + 1)
        self.assertEqual(book.titles(), sorted(NAMES))
        self.assertEqual(book["a"], Program([ODD]))
        self.assertEqual(book["b"], Row((1,), (0,)))
        self.assertIsInstance(book.titles(), list)

    def test_the_place_of_one_of_its_kind(self):
        book = filled(a=THREE, b=Program([ODD]), c=THREE)
        book.put("a", Row((1,), (7,)))
        book.put("b", Program([]))
        self.assertEqual(list(book), ["a", "b", "c"])
        self.assertEqual((book["a"], book["b"]), (Row((1,), (7,)), Program([])))

    def test_of_the_other_kind(self):
        book = filled(a=THREE, b=Program([ODD]))
        self.refused(NoName, book, lambda: book.put("a", Program([ODD])), name="a")
        self.refused(NoName, book, lambda: book.put("b", THREE), name="b")

    def test_the_thirteenth_name(self):
        book = filled(**{name: THREE for name in NAMES})
        self.refused(NoName, book, lambda: book.put("i", THREE), name="i")
        book.put("h", Row((1,), (1,)))
        self.assertEqual(book.drop("b"), THREE)
        book.put("i", THREE)
        self.assertEqual(list(book), NAMES[1:] + ["i"])
        self.refused(NoName, book, lambda: book.put("j", Program([])), name="j")

    def test_no_names(self):
        book = Book()
        for wrong in ("", "A", "a1", "a b", " a", "a\n", "abcdefghijk", "areas", "volumes", "locks", "order", "program",
                      "odd", "even", "right", "left", "_", "a:", 1, None, True, ("a",), b"a", "\u00e4", "a/"):
            self.refused(NoName, book, lambda: book.put(wrong, THREE), name=wrong)
        self.refused(NoName, book, lambda: book.put(["a"], THREE), name=["a"])
        for name in ("lock", "rights", "oddx", "orders"):
            book.put(name, THREE)

    def test_neither_rows_nor_programs_first_of_all(self):
        book = filled(a=THREE)
        for wrong in (None, (1, 2), "a", [ODD], Book()):
            self.refused(BadRow, book, lambda: book.put("a", wrong))
            self.refused(BadRow, book, lambda: book.put(7, wrong))

    def test_asking(self):
        book = filled(a=THREE)
        for wrong in ("b", "", None, 0, True, ("a",), ["a"], {}):
            self.refused(NoName, book, lambda: book[wrong], name=wrong)
            self.assertNotIn(wrong, book)
        self.assertIn("a", book)

    def test_order_behind_drop_and_undo(self):
        book = filled(c=THREE, a=THREE, b=Program([]))
        book.drop("a")
        self.assertEqual(list(book), ["c", "b"])
        book.undo()
        self.assertEqual(list(book), ["c", "a", "b"])
        book.drop("c")
        book.put("c", Program([ODD]))
        self.assertEqual(list(book), ["a", "b", "c"])
        self.assertEqual(book["c"], Program([ODD]))
        book.undo()
        book.undo()
        self.assertEqual(list(book), ["c", "a", "b"])
        self.assertEqual(book["c"], THREE)


class Copies(Same):
    def test_what_is_given(self):
        row, program = Row((1, 2), (3, 4), [1]), Program([ODD])
        book = filled(a=row, p=program)
        row.volumes, row.locks, program.rounds = ((0, 1), (0, 1)), (), (EVEN,)
        self.assertEqual((book["a"], book["p"]), (Row((1, 2), (3, 4), [1]), Program([ODD])))

    def test_what_is_returned(self):
        book = filled(a=Row((1, 1), (4, 0)), p=Program([ODD]), b=Row((1, 1), (6, 2)))
        for found in (book["a"], book.pour("a"), book.fill("a", 0, 4)):
            found.volumes = ((9, 1), (9, 1))
        book["p"].rounds = ()
        book.drop("b").volumes = ((9, 1), (9, 1))
        self.assertEqual((book["a"], book["p"]), (Row((1, 1), (4, 0)), Program([ODD])))
        book.undo()
        self.assertEqual(book["b"], Row((1, 1), (6, 2)))
        book.claim_never("a", 1, 9).number = (0, 1)
        book.claims().append(None)
        book.titles().append(None)
        self.assertEqual(book.claims(), [("never", "a", 1, (9, 1))])
        self.assertEqual(book.titles(), ["a", "b", "p"])

    def test_iterating_while_it_changes(self):
        book = filled(a=THREE, b=THREE, c=THREE)
        for name in book:
            book.drop(name)
        self.assertEqual(len(book), 0)


class Changes(Same):
    def test_pour(self):
        book = filled(a=THREE)
        told = book.pour("a", 1, 2, 1)
        self.assertEqual(told, behind(THREE, [1, 2, 1]))
        self.assertEqual(book["a"], told)
        self.assertEqual(book.pour("a"), told)
        book.undo()
        book.undo()
        self.assertEqual(book["a"], THREE)

    def test_pour_refused(self):
        book = filled(a=Row((1, 1, 1), (3, 0, 0), [1]), p=Program([ODD]))
        self.refused(NoName, book, lambda: book.pour("b", 9), name="b")
        self.refused(NoName, book, lambda: book.pour(None, 9), name=None)
        self.refused(BadRow, book, lambda: book.pour("p", 9))
        for order, place in (([1], 0), ([2, 3], 1), ([2, True], 1), ([2, [2]], 1), ([2] * 20001, None)):
            self.refused(BadOrder, book, lambda: book.pour("a", *order), place=place)
        self.assertEqual(book.pour("a", *[2] * 20000).volumes, ((3, 1), (0, 1), (0, 1)))

    def test_fill(self):
        book = filled(a=Row((1, 2), (3, 4), [1]))
        told = book.fill("a", 1, (6, 4))
        self.assertEqual(told, Row((1, 2), (3, (3, 2)), [1]))
        self.assertEqual(book["a"], told)
        self.assertEqual(book.fill("a", 0, 0), Row((1, 2), (0, (3, 2)), [1]))
        book.undo()
        self.assertEqual(book["a"], told)

    def test_fill_refused(self):
        book = filled(a=THREE, p=Program([ODD]))
        self.refused(NoName, book, lambda: book.fill("b", None, None), name="b")
        self.refused(BadRow, book, lambda: book.fill("p", None, None))
        for basin in (-1, 3, True, None, "1", (0,)):
            self.refused(BadOrder, book, lambda: book.fill("a", basin, -1), place=None)
        for volume in (-1, (-1, 2), (1, 0), True, None, "1", 1.0, [1, 2]):
            self.refused(BadRow, book, lambda: book.fill("a", 1, volume))

    def test_drop(self):
        book = filled(a=THREE, p=Program([ODD]))
        self.assertEqual(book.drop("p"), Program([ODD]))
        self.assertEqual(book.drop("a"), THREE)
        self.assertEqual(len(book), 0)
        for wrong in ("a", "p", None, ["a"]):
            self.refused(NoName, book, lambda: book.drop(wrong), name=wrong)


class Undoing(Same):
    def test_several_times(self):
        rng = random.Random(1)
        for _ in range(30):
            book = Book()
            seen = [state(book)]
            for _ in range(rng.randint(0, 12)):
                self.random_change(rng, book)
                seen.append(state(book))
            found, end = undone(book)
            self.assertEqual(found, seen[::-1])
            self.assertEqual(end, NothingDone)

    def random_change(self, rng, book):
        name = rng.choice("ab")
        if name not in book:
            book.put(name, Row((1, 2), (rng.randint(0, 5), 3)))
            return
        change = rng.randrange(4)
        if change == 0:
            book.put(name, Row((2, 1, 3), (3, 1, 4)))
        elif change == 1:
            book.pour(name, *[1] * rng.randint(0, 2))
        elif change == 2:
            book.fill(name, rng.randrange(2), rng.randint(0, 9))
        else:
            book.drop(name)

    def test_nothing_left(self):
        book = Book()
        self.refused(NothingDone, book, book.undo)
        book.put("a", THREE)
        self.assertIsNone(book.undo())
        self.refused(NothingDone, book, book.undo)

    def test_changes_that_change_nothing_are_changes(self):
        book = filled(a=THREE)
        book.put("a", THREE)
        book.pour("a")
        book.fill("a", 0, 3)
        for _ in range(3):
            book.undo()
            self.assertEqual(book["a"], THREE)
        book.undo()
        self.assertEqual(list(book), [])

    def test_behind_refused_changes(self):
        book = filled(a=THREE)
        book.pour("a", 1)
        for call in (lambda: book.put("b", None), lambda: book.put("A", THREE), lambda: book.pour("a", 3),
                     lambda: book.fill("a", 3, 0), lambda: book.drop("b"), lambda: book.claim_never("a", 4, 1)):
            self.assertRaises(ValueError, call)
        book.undo()
        self.assertEqual(book["a"], THREE)
        book.undo()
        self.assertRaises(NothingDone, book.undo)

    def test_new_changes_behind_an_undo(self):
        book = filled(a=THREE)
        book.pour("a", 1)
        book.undo()
        book.fill("a", 1, 5)
        book.undo()
        self.assertEqual(book["a"], THREE)
        book.undo()
        self.assertRaises(NothingDone, book.undo)

    def test_claims_are_not_undone(self):
        book = filled(a=THREE)
        book.pour("a", 1)
        book.claim_never("a", 1, 9)
        book.undo()
        self.assertEqual(book.claims(), [("never", "a", 1, (9, 1))])


class Claims(Same):
    def test_never(self):
        book = filled(a=THREE, b=Row((1, 1, 1), (0, 0, 6)))
        told = book.claim_never("a", 1, 3)
        self.assertEqual(told, highest(THREE, 1))
        self.assertIsInstance(told, High)
        self.assertEqual(book.claims(), [("never", "a", 1, (3, 1))])
        self.assertEqual(book.claim_never("b", 2, (7, 2)).number, (4, 1))
        self.assertEqual(len(book.claims()), 1)
        self.assertEqual(book.claim_never("b", 2, (8, 2)).number, (4, 1))
        self.assertEqual(book.claims(), [("never", "a", 1, (3, 1)), ("never", "b", 2, (4, 1))])
        self.assertIsInstance(book.claims(), list)

    def test_never_twice(self):
        book = filled(a=THREE)
        for _ in range(2):
            book.claim_never("a", 2, (10, 3))
        self.assertEqual(book.claims(), [("never", "a", 2, (10, 3))] * 2)

    def test_alike(self):
        book = filled(a=Program([ODD, ODD]), b=Program([ODD]), c=Program([EVEN]))
        told = book.claim_alike("a", "b")
        self.assertEqual(told, judge_programs(Program([ODD, ODD]), Program([ODD])))
        self.assertIsInstance(told, SameAlways)
        self.assertEqual(book.claim_alike("a", "c"), FirstUnlike(2, 0, 0))
        self.assertTrue(book.claim_alike("c", "c"))
        self.assertEqual(book.claims(), [("alike", "a", "b"), ("alike", "c", "c")])

    def test_never_refused(self):
        book = filled(a=THREE, p=Program([]))
        self.refused(NoName, book, lambda: book.claim_never("b", None, None), name="b")
        self.refused(BadRow, book, lambda: book.claim_never("p", None, None))
        for place in (-1, 4, True, None, "1"):
            self.refused(BadNumber, book, lambda: book.claim_never("a", place, 5))
        for number in (True, None, "1", (1, 0), (1, 2, 3), 1.0, [1, 2]):
            self.refused(BadNumber, book, lambda: book.claim_never("a", 1, number))

    def test_alike_refused(self):
        book = filled(a=THREE, p=Program([RIGHT]), q=Program([LEFT]))
        self.refused(NoName, book, lambda: book.claim_alike("b", "p"), name="b")
        self.refused(NoName, book, lambda: book.claim_alike("p", ["p"]), name=["p"])
        self.refused(NoName, book, lambda: book.claim_alike("b", "c"), name="b")
        self.refused(BadProgram, book, lambda: book.claim_alike("a", "p"), place=None)
        self.refused(BadProgram, book, lambda: book.claim_alike("q", "a"), place=None)
        self.refused(NoName, book, lambda: book.claim_alike("b", "a"), name="b")
        self.refused(BadProgram, book, lambda: book.claim_alike("a", "b"), place=None)
        self.refused(Mixed, book, lambda: book.claim_alike("p", "q"))


class Breaking(Same):
    def test_the_first_claim(self):
        book = filled(a=THREE, b=THREE)
        book.claim_never("b", 1, 3)
        book.claim_never("a", 2, 4)
        book.claim_never("a", 1, 4)
        book.claim_never("a", 3, 3)
        self.refused(Claimed, book, lambda: book.fill("a", 0, 5), number=1)
        self.refused(Claimed, book, lambda: book.fill("a", 1, (11, 10)), number=1)
        self.refused(Claimed, book, lambda: book.fill("a", 2, (1, 10)), number=3)
        self.refused(Claimed, book, lambda: book.put("a", Row((1, 1, 1), (4, 1, 0))), number=1)
        self.refused(Claimed, book, lambda: book.fill("b", 0, 4), number=0)
        self.assertEqual(book.fill("a", 0, 2).volumes, ((2, 1), (0, 1), (0, 1)))
        self.assertEqual(book.put("a", Row((1, 1, 1), (3, 0, 0))), None)

    def test_pouring_never_breaks(self):
        book = filled(a=Row((1, 2, 1), (0, 3, 4)))
        for place in range(4):
            book.claim_never("a", place, highest(book["a"], place).number)
        self.assertEqual(len(book.claims()), 4)
        book.pour("a", 1, 2, 1, 2, 2)
        self.refused(Claimed, book, lambda: book.fill("a", 2, 100), number=1)

    def test_rows_that_are_too_short(self):
        book = filled(a=THREE)
        book.claim_never("a", 2, 9)
        self.refused(Claimed, book, lambda: book.put("a", Row((1,), (0,))), number=0)
        book.put("a", Row((1, 1), (0, 0)))

    def test_dropping(self):
        book = filled(a=THREE, p=Program([ODD]), q=Program([ODD, ODD]), r=Program([]))
        book.claim_never("a", 0, 9)
        book.claim_alike("q", "p")
        book.claim_never("a", 0, 9)
        for name, number in (("a", 0), ("p", 1), ("q", 1)):
            self.refused(Claimed, book, lambda: book.drop(name), number=number)
        book.drop("r")

    def test_programs(self):
        book = filled(p=Program([ODD, EVEN]), q=Program([ODD, ODD, EVEN]), r=Program([ODD, EVEN]))
        book.claim_alike("p", "r")
        book.claim_alike("q", "p")
        self.refused(Claimed, book, lambda: book.put("q", Program([ODD])), number=1)
        self.refused(Claimed, book, lambda: book.put("p", Program([RIGHT])), number=0)
        book.put("q", Program([ODD, EVEN, EVEN]))
        self.assertEqual(book["q"], Program([ODD, EVEN, EVEN]))

    def test_programs_that_could_not_be_asked_about(self):
        book = filled(p=Program([RIGHT]), q=Program([RIGHT]), r=Program([ODD]), s=Program([LEFT, RIGHT]))
        book.claim_alike("p", "q")
        self.refused(Claimed, book, lambda: book.put("q", Program([LEFT])), number=0)
        self.refused(Claimed, book, lambda: book.put("p", Program([LEFT, RIGHT])), number=0)
        book.claim_alike("r", "r")
        self.refused(Claimed, book, lambda: book.put("r", Program([LEFT, RIGHT])), number=1)
        book.put("r", Program([LEFT]))

    def test_undo(self):
        book = filled(a=Row((1, 1), (9, 0)))
        book.fill("a", 0, 1)
        book.claim_never("a", 1, 2)
        self.refused(Claimed, book, book.undo, number=0)
        self.refused(Claimed, book, book.undo, number=0)
        book.fill("a", 0, 2)
        book.undo()
        self.assertEqual(book["a"], Row((1, 1), (1, 0)))
        self.refused(Claimed, book, book.undo, number=0)

    def test_undo_of_a_new_name(self):
        book = filled(p=Program([ODD]), q=Program([ODD, ODD]))
        book.put("a", THREE)
        book.claim_alike("p", "q")
        book.undo()
        self.refused(Claimed, book, book.undo, number=0)
        self.assertEqual(list(book), ["p", "q"])

    def test_undo_of_a_drop_and_a_put_of_the_other_kind(self):
        book = filled(a=THREE)
        book.drop("a")
        book.put("a", Program([ODD]))
        book.claim_alike("a", "a")
        self.refused(Claimed, book, book.undo, number=0)


class Attempts(Same):
    def test_what_it_returns(self):
        book = filled(a=THREE)
        found = [7]
        self.assertIs(book.attempt(lambda given: found), found)
        self.assertIsNone(book.attempt(lambda given: None))
        self.assertEqual(book.attempt(lambda given: given.pour("a", 1)), behind(THREE, [1]))
        self.assertIs(book.attempt(lambda given: given), book)
        self.assertEqual(book["a"], behind(THREE, [1]))
        book.undo()
        self.assertEqual(book["a"], THREE)

    def all_kinds(self, book):
        book.fill("a", 0, 1)
        book.pour("a", 1)
        book.put("b", Program([ODD]))
        book.claim_never("a", 1, 50)
        book.claim_alike("b", "b")
        book.put("c", THREE)
        book.drop("c")

    def test_errors(self):
        class Own(Exception):
            pass

        for error in (Own("why"), KeyError(3), KeyboardInterrupt()):
            book = filled(a=THREE)
            book.pour("a", 2)
            before = state(book)

            def deed(given):
                self.all_kinds(given)
                raise error

            with self.assertRaises(type(error)) as caught:
                book.attempt(deed)
            self.assertIs(caught.exception, error)
            self.assertEqual(state(book), before)
            found, end = undone(book)
            self.assertEqual((len(found), end), (3, NothingDone))

    def test_errors_of_the_book(self):
        book = filled(a=THREE)
        book.claim_never("a", 1, 3)

        def deed(given):
            given.fill("a", 0, 1)
            given.fill("a", 0, 4)

        self.refused(Claimed, book, lambda: book.attempt(deed), number=0)
        self.assertEqual(book["a"], THREE)

    def test_undoing_within(self):
        book = filled(a=THREE)
        book.pour("a", 1)

        def deed(given):
            given.undo()
            given.undo()
            given.undo()

        self.refused(NothingDone, book, lambda: book.attempt(deed))
        self.assertEqual(book["a"], behind(THREE, [1]))
        book.undo()
        self.assertEqual(book["a"], THREE)
        book.undo()
        self.assertRaises(NothingDone, book.undo)

    def test_one_within_another(self):
        book = filled(a=THREE)

        def inner(given):
            given.fill("a", 1, 7)
            given.claim_never("a", 0, 7)
            raise KeyError("inner")

        def outer(given):
            given.fill("a", 0, 5)
            given.claim_never("a", 1, 9)
            self.assertRaises(KeyError, given.attempt, inner)
            return state(given)

        late = Row((1, 1, 1), (5, 0, 0))
        self.assertEqual(book.attempt(outer), ([("a", late)], [("never", "a", 1, (9, 1))]))
        self.assertEqual(state(book), ([("a", late)], [("never", "a", 1, (9, 1))]))
        book.undo()
        self.assertEqual(book["a"], THREE)

    def test_both_end_with_an_error(self):
        book = filled(a=THREE)
        before = state(book)

        def outer(given):
            given.fill("a", 0, 5)
            given.attempt(lambda again: again.pour("a", 9))

        with self.assertRaises(BadOrder) as caught:
            book.attempt(outer)
        self.assertEqual(caught.exception.place, 0)
        self.assertEqual(state(book), before)

    def test_claims_made_ahead_stay(self):
        book = filled(a=THREE)
        book.claim_never("a", 1, 3)
        self.assertRaises(KeyError, book.attempt, lambda given: {}[given.claim_never("a", 1, 4).number])
        self.assertEqual(book.claims(), [("never", "a", 1, (3, 1))])
