"""Point 64."""

import inspect
import unittest

from everypoint import books
from everypoint.books import Book, audit, compare_books, replay, shared_names
from everypoint.keeping import kept_tree
from everypoint.shapes import box
from support import BIG, DEEP_VALUES, PLAIN_VALUES, SpaceTest, kinds_of, point

LINES = [
    "make a box 0 0 0 3 3 1", "ask volume a", "make h box 1 1 -1 2 2 2", "take ring a h", "ask at ring 3/2 3/2 1/2", "ask convex ring",
    "paper bent ring 1/2 3/2 1/2 5/2 3/2 1/2 3/2 3/2 1/2", "draw ring straight 3 2 0 0 -1 1/2 3/2 9 1 0 0 0 1 0", "outside o ring", "ask hollows o",
    "move m ring turn x 1", "ask same m ring", "ask hit ring 1/2 1/2 7/2 0 0 -1", "make e empty", "ask relation e ring", "ask volume o"]
ROWS = [
    "make a box 0 0 0 3 3 1", "ask volume a = 9", "make h box 1 1 -1 2 2 2", "take ring a h", "ask at ring 3/2 3/2 1/2 = out", "ask convex ring = no",
    "paper bent ring 1/2 3/2 1/2 5/2 3/2 1/2 3/2 3/2 1/2", "draw ring straight 3 2 0 0 -1 1/2 3/2 9 1 0 0 0 1 0 = 808/888", "outside o ring", "ask hollows o = 1",
    "move m ring turn x 1", "ask same m ring = no", "ask hit ring 1/2 1/2 7/2 0 0 -1 = 5/2", "make e empty", "ask relation e ring = apart", "ask volume o = unbounded"]
SHORT = [
    "make a box 0 0 0 3 3 1", "ask volume a = 9", "ask at a 1 1 1/2 = in", "outside o a", "ask hollows o = 1", "ask convex o = no", "paper far o 1 1 2 0 0 1",
    "draw a straight 2 1 0 0 -1 1/2 3/2 9 3 0 0 0 1 0 = 80", "move m a shift 5 0 0", "ask relation m a = apart", "ask hit m 1 1 1/2 1 0 0 = 4",
    "ask volume o = unbounded"]


def filled(lines=LINES):
    book = Book()
    for line in lines:
        book.enter(line)
    return book


def long_lines(many=60):
    return ["make a empty"] + ["ask empty a"] * (many - 1)


def state_of(book):
    return kinds_of((book.rows, book.names, [book.tree_of(name) for name in book.names], len(book), list(book)))


class TestEntering(SpaceTest):

    def test_rows(self):
        book = Book()
        for k, (line, row) in enumerate(zip(LINES, ROWS)):
            self.assert_same(len(book), k)
            self.assert_same(book.enter(line), row)
            self.assert_same(book.rows, ROWS[:k + 1])
        self.assert_same(list(book), ROWS)
        self.assert_same([row for row in book], ROWS)
        self.assert_same(book.names, ["a", "e", "h", "m", "o", "ring"])
        self.assert_same(Book().rows, [])
        self.assert_same(Book().names, [])
        self.assert_same(len(Book()), 0)
        self.assert_same(book.enter(line="ask pieces ring"), "ask pieces ring = 1")

    def test_trees(self):
        book = filled()
        self.assert_same(book.tree_of("a"), kept_tree(box(point(0, 0, 0), point(3, 3, 1))))
        self.assert_same(book.tree_of(name="e"), "out")
        for name in ("x", "", "A", "no name", "rings", "a\n"):
            self.assert_error("RunFault", book.tree_of, name, line=0, place=0, why="unknown")

    def test_faults_change_nothing(self):
        book = filled()
        before = state_of(book)
        for line, place in (
                ("", 1), (" ", 1), ("make n", 3), ("ask volume a = 9", 4), ("ask empty a = yes", 4), ("ask at a 0 0 0 = on", 7), ("make n empty =", 4), ("make n empty ", 4),
                ("make n empty\n", 3), ("ask volume a\nask volume a", 3), ("\n", 1), ("make n half 0 0 2 0 +", 4), (" = ", 1), ("make a empty = ", 4)):
            self.assert_error("TextFault", book.enter, line, line=1, place=place)
        for line, place, why in (
                ("make a empty", 2, "taken"), ("ask volume x", 3, "unknown"), ("join n a x", 4, "unknown"), ("make n box 0 0 0 0 0 0", 1, "flat"),
                ("make n prism 0 1 0 0 0 1 1 0", 1, "polygon"), ("move n a scale 1 1 0", 1, "singular"), ("ask hit a 0 0 0 0 0 0", 1, "direction"),
                ("each n a 6 9 0 0", 1, "large"), ("paper far a 1 1 1/2 0 0 1", 1, "paper"), ("paper far o 1 1 1/2 0 0 0", 1, "paper")):
            self.assert_error("RunFault", book.enter, line, line=1, place=place, why=why)
        self.assertEqual(state_of(book), before)

    def test_a_full_book(self):
        book = filled(long_lines())
        self.assertEqual(len(book), 60)
        before = state_of(book)
        for line in ("ask empty a", "make b full", "outside b a", "paper parted a a 0 0 1 0 +"):
            self.assert_error("TooLarge", book.enter, line, what="rows")
        # The faults of a line stand before it.
        self.assert_error("TextFault", book.enter, "ask empty", line=1, place=3)
        self.assert_error("TextFault", book.enter, "", line=1, place=1)
        self.assert_error("RunFault", book.enter, "make a empty", line=1, place=2, why="taken")
        self.assert_error("RunFault", book.enter, "ask empty b", line=1, place=3, why="unknown")
        self.assert_error("RunFault", book.enter, "make b box 0 0 0 0 0 0", line=1, place=1, why="flat")
        self.assert_error("RunFault", book.enter, "paper far a 0 0 0 1 0 0", line=1, place=1, why="paper")
        self.assertEqual(state_of(book), before)
        self.assert_same(book.undo(), "ask empty a = yes")
        self.assert_same(book.enter("make b full"), "make b full")
        self.assertEqual(len(book), 60)

    def test_lists_are_new(self):
        book = filled()
        before = state_of(book)
        book.rows.clear()
        book.names.append("x")
        list(book).clear()
        self.assertEqual(state_of(book), before)

    def test_the_class(self):
        for name in ("__init__", "enter", "undo", "rows", "names", "tree_of", "twin", "__len__", "__iter__", "__eq__"):
            self.assertIn(name, vars(Book))
        for name in ("rows", "names"):
            self.assertIsInstance(vars(Book)[name], property)
            with self.assertRaises(AttributeError):
                setattr(Book(), name, [])
        for name, told in (("__init__", "(self)"), ("enter", "(self, line)"), ("undo", "(self)"), ("tree_of", "(self, name)"), ("twin", "(self)")):
            self.assertEqual(str(inspect.signature(vars(Book)[name])), told)
        self.assertEqual((Book.__module__, Book.__bases__), (books.__name__, (object,)))


class TestUndoing(SpaceTest):

    def test_to_the_beginning(self):
        book = filled()
        for k in range(len(ROWS), 0, -1):
            self.assertEqual(state_of(book), state_of(filled(LINES[:k])))
            self.assert_same(book.undo(), ROWS[k - 1])
        self.assertEqual(state_of(book), state_of(Book()))
        for _ in range(2):
            self.assert_error("NothingToUndo", book.undo)
        self.assertEqual(state_of(book), state_of(Book()))
        for line, row in zip(LINES, ROWS):
            self.assert_same(book.enter(line), row)

    def test_of_sixty_rows(self):
        book = filled(long_lines())
        for k in range(60):
            self.assertEqual(len(book), 60 - k)
            book.undo()
        self.assert_same((book.rows, book.names), ([], []))

    def test_a_name_can_be_made_again(self):
        book = filled(["make a empty", "outside b a"])
        self.assert_error("RunFault", book.enter, "make b full", line=1, place=2, why="taken")
        self.assert_same(book.undo(), "outside b a")
        self.assert_error("RunFault", book.enter, "ask empty b", line=1, place=3, why="unknown")
        self.assert_error("RunFault", book.tree_of, "b", line=0, place=0, why="unknown")
        self.assert_same(book.enter("make b box 0 0 0 1 1 1"), "make b box 0 0 0 1 1 1")
        self.assert_same(book.enter("ask volume b"), "ask volume b = 1")
        book.undo()
        # Undoing a question unmakes no name.
        self.assert_same(book.names, ["a", "b"])
        self.assert_same(book.undo(), "make b box 0 0 0 1 1 1")
        self.assert_same(book.names, ["a"])

    def test_each_statement_that_makes_a_name(self):
        for line in ("make n full", "move n a shift 1 1 1", "join n a a", "cut n a a", "take n a a", "outside n a", "each n a 2 1 1 1"):
            book = filled(["make a empty", line])
            self.assert_same(book.names, ["a", "n"])
            self.assert_same(book.undo(), line)
            self.assert_same(book.names, ["a"])
            self.assert_same(book.enter(line), line)


class TestTwins(SpaceTest):

    def test_they_are_equal_and_go_their_own_ways(self):
        book = filled()
        twin = book.twin()
        self.assertIs(type(twin), Book)
        self.assertIsNot(twin, book)
        self.assertIs(twin == book, True)
        self.assertEqual(state_of(twin), state_of(book))
        before = state_of(book)
        twin.enter("make new full")
        twin.undo()
        twin.undo()
        twin.undo()
        twin.undo()
        twin.enter("make e full")
        self.assertEqual(state_of(book), before)
        self.assert_same((book.tree_of("e"), twin.tree_of("e")), ("out", "in"))
        later = state_of(twin)
        for _ in range(5):
            book.undo()
        book.enter("make q empty")
        self.assertEqual(state_of(twin), later)
        self.assert_error("RunFault", twin.tree_of, "q", line=0, place=0, why="unknown")
        self.assertEqual(state_of(Book().twin()), state_of(Book()))

    def test_a_twin_can_be_undone_like_the_first(self):
        book, twin = filled(), filled().twin()
        for _ in range(len(LINES)):
            self.assert_same(twin.undo(), book.undo())
            self.assertEqual(state_of(twin), state_of(book))
        self.assert_error("NothingToUndo", twin.undo)

    def test_equal_books(self):
        book = filled()
        for other, wanted in (
                (filled(), True), (book, True), (filled(LINES[:-1]), False), (Book(), False), (ROWS, False), (None, False), (tuple(ROWS), False), (1, False)):
            self.assertIs(book == other, wanted)
            self.assertIs(book != other, not wanted)
        self.assertIs(Book() == Book(), True)
        self.assertIs(Book() == [], False)
        # The same solids by other rows are not equal.
        self.assertIs(filled(["make a empty"]) == filled(["make b empty"]), False)
        self.assertIs(filled(["make a empty", "make b empty"]) == filled(["make b empty", "make a empty"]), False)

    def test_comparing(self):
        book = filled()
        self.assertIsNone(compare_books(book, filled()))
        self.assertIsNone(compare_books(Book(), Book()))
        self.assert_same(compare_books(book, Book()), 0)
        self.assert_same(compare_books(Book(), book), 0)
        self.assert_same(compare_books(book, filled(LINES[:7])), 7)
        self.assert_same(compare_books(first=filled(LINES[:15]), second=book), 15)
        other = filled(LINES[:5] + ["ask bounded ring"] + LINES[5:])
        self.assert_same(compare_books(book, other), 5)
        self.assert_same(compare_books(other, book), 5)
        self.assertIs(compare_books(book, book.twin()) is None, book == book.twin())

    def test_shared_names(self):
        first = filled(["make b box 0 0 0 1 1 1", "make a half 0 0 1 0 +", "make only full", "outside c a", "make e empty"])
        second = filled(["make e empty", "make x full", "make a half 0 0 1 0 -", "outside c a", "outside d c", "move b0 a mirror z", "make b box 0 0 0 1 1 1"])
        self.assert_same(shared_names(first, second), [("a", False), ("b", True), ("c", False), ("e", True)])
        self.assert_same(shared_names(second=first, first=second), [("a", False), ("b", True), ("c", False), ("e", True)])
        # The kept trees count, not the expressions.
        self.assert_same(shared_names(
            filled(["make n half 0 0 1 0 +"]), filled(["make m half 0 0 1 0 -", "outside n m"])), [("n", True)])
        self.assert_same(shared_names(Book(), first), [])
        self.assert_same(shared_names(first, first), [("a", True), ("b", True), ("c", True), ("e", True), ("only", True)])


class TestAudits(SpaceTest):

    def assert_wrong(self, rows, number):
        given = list(rows)
        self.assert_same(audit(rows), number)
        self.assert_error("BadRow", replay, rows, number=number)
        self.assertEqual(rows, given)

    def test_right_rows(self):
        for many in range(len(ROWS) + 1):
            self.assertIsNone(audit(ROWS[:many]))
            book = replay(ROWS[:many])
            self.assertIs(type(book), Book)
            self.assertEqual(state_of(book), state_of(filled(LINES[:many])))
        self.assertIsNone(audit(rows=[]))
        self.assert_same(replay(rows=[]).rows, [])
        book = replay(ROWS)
        for row in reversed(ROWS):
            self.assert_same(book.undo(), row)

    def test_rows_with_an_answer_changed(self):
        self.assertIsNone(audit(SHORT))
        for number, row in enumerate(SHORT):
            line, mark, answer = row.partition(" = ")
            wrong = [line + " = x", row + " ", row + "\n", row + " = ", row + " = x", " " + row, row.replace(" ", "  ", 1)]
            if mark:
                # Without the answer that is due, with another one, and told twice.
                wrong += [line, line + " =", line + " = ", line + mark + answer[:-1], line + mark + answer + "0", line + "=" + answer, row + mark + answer,
                          line + mark + " " + answer]
            else:
                wrong += [line + " = None", line + " = yes", line + " = "]
            for other in wrong:
                self.assert_wrong(SHORT[:number] + [other] + SHORT[number + 1:], number)

    def test_answers_of_another_form(self):
        for row in ("ask volume a = 9/1", "ask volume a = 09", "ask volume a = +9", "ask volume a = 18/2", "ask volume a = 9.0", "ask volume a = \u0669"):
            self.assert_wrong(["make a box 0 0 0 3 3 1", row], 1)
        self.assert_wrong(["make a empty", "ask empty a = Yes"], 1)
        self.assert_wrong(["make a empty", "ask empty a = no"], 1)

    def test_rows_left_out_added_or_told_twice(self):
        self.assert_wrong(ROWS[1:], 0)
        self.assert_wrong(ROWS[:2] + ROWS[3:], 2)
        self.assert_wrong(ROWS[:3] + ROWS[4:], 3)
        # A question that is left out makes no difference, and a name that is not used later neither.
        self.assertIsNone(audit(ROWS[:1] + ROWS[2:]))
        self.assertIsNone(audit(ROWS[:10] + ROWS[12:]))
        self.assert_wrong(ROWS + ROWS[:1], len(ROWS))
        self.assert_wrong(ROWS[:3] + ROWS[2:], 3)
        self.assertIsNone(audit(ROWS[:2] + ROWS[1:]))
        self.assert_wrong([ROWS[1], ROWS[0]], 0)
        self.assert_wrong(ROWS[:1] + ["make b box 0 0 0 0 0 0"] + ROWS[1:], 1)
        self.assert_wrong(ROWS[:1] + [""] + ROWS[1:], 1)

    def test_only_the_first_wrong_row_is_told(self):
        self.assert_wrong(["make a empty", "x", "y", None, "make a empty"], 1)
        self.assert_wrong(["make a empty", None, "y"], 1)

    def test_the_line_of_a_row(self):
        """It is the part before the first mark of an answer."""
        self.assert_wrong(["make a empty", "ask empty a = yes = yes"], 1)
        self.assert_wrong(["make a empty", "ask empty a = yes = "], 1)
        self.assert_wrong([" = yes"], 0)
        self.assert_wrong(["="], 0)
        self.assert_wrong(["make a empty ="], 0)

    def test_as_many_rows_as_there_may_be(self):
        rows = filled(long_lines()).rows
        self.assertIsNone(audit(rows))
        self.assertEqual(len(replay(rows)), 60)
        self.assert_wrong(rows + ["ask empty a = yes"], 60)
        self.assert_wrong(rows + ["ask empty a = yes"] * 50, 60)
        self.assert_wrong(rows + [None], 60)
        self.assert_wrong(rows[:59] + ["ask empty a = no", "ask empty a = yes"], 59)

    def test_rows_that_are_no_texts(self):
        for value in PLAIN_VALUES + DEEP_VALUES:
            self.assert_wrong([value], 0)
            self.assert_wrong(["make a empty", value], 1)
        self.assert_wrong([["make a empty"]], 0)
        self.assert_wrong([("make a empty",)], 0)
        self.assert_wrong([True, "make a empty"], 0)

    def test_other_characters(self):
        for row in (
                "make \u00e9 empty", "make a\u0301 empty", "make a empty\u00a0", "make\u00a0a empty", "make a\tempty", "make a half 0 0 \u0661 0 +", "make a half 0 0 1 0 \uff0b",
                "make a box 0 0 0 1 1 \u00b2", "make \u0430 empty", "make a empty\r", "make a empty\n", "\ufeffmake a empty", "make a empty \U0001f600", "\ud800", "make a1\u0662 empty",
                "make a empty \u003d\u3000", "MAKE a empty", "make \x00 empty", "make a percent\u0025"):
            self.assert_wrong([row], 0)
            self.assert_wrong(ROWS[:2] + [row], 2)

    def test_large_numbers(self):
        book = filled([f"make a box 0 0 0 {BIG} 1/{BIG} 2", "ask volume a", f"ask at a {BIG} 0 0"])
        self.assert_same(book.rows[1:], ["ask volume a = 2", f"ask at a {BIG} 0 0 = on"])
        self.assertIsNone(audit(book.rows))
        self.assert_wrong(["make a half " + "9" * 801 + " 0 0 1 +"], 0)
        self.assertIsNone(audit(["make a half " + "9" * 800 + " 0 0 1 +"]))


if __name__ == "__main__":
    unittest.main()
