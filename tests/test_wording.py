"""Point 23, and point 21 for parsed expressions."""

import random
import unittest

from everypoint.expressions import depth, planes_of, size
from everypoint.moves import STILL, make_move, mirror_axis, quarter_turn, shift_by
from everypoint.wording import expression_text, parse_expression
from samples import BOUNDED, CHECKERED, EMPTY, FULL, NOT_BOUNDED, some_expression, some_planes, some_point
from support import BIG, X0, SpaceTest, nested, plane_at, point

UNIT = "1 0 0 0 1 0 0 0 1"
HALF = ("half", (0, 0, 1, -6), -1)


def joined(count):
    """A join of this many leaves "full", of small depth; its size is 2 * count - 1."""
    if count == 1:
        return FULL
    return ("join", joined(count // 2), joined(count - count // 2))


def outsides(count, inner=FULL):
    """This many nodes "outside" around the inner one."""
    return nested(count, inner, lambda x: ("outside", x))


def meet_of_levels(count):
    parts = [("half", plane_at(2, k), 1) for k in range(count)]
    while len(parts) > 1:
        parts = [("meet", *parts[k:k + 2]) if k + 1 < len(parts) else parts[k] for k in range(0, len(parts), 2)]
    return parts[0]


class TestTexts(SpaceTest):

    def test_texts_and_back(self):
        for expression, text in (
                (EMPTY, "empty"), (FULL, "full"), (("half", X0, 1), "half 1 0 0 0 +"), (HALF, "half 0 0 1 -6 -"),
                (("outside", HALF), "outside\n  half 0 0 1 -6 -"),
                (("join", EMPTY, FULL), "join\n  empty\n  full"),
                (("take", ("meet", FULL, HALF), ("outside", EMPTY)),
                 "take\n  meet\n    full\n    half 0 0 1 -6 -\n  outside\n    empty"),
                (("move", STILL, FULL), f"move {UNIT} 0 0 0\n  full"),
                (("move", make_move([[1, (1, 2), 0], [0, -3, 0], [0, 0, (-7, 5)]], [(-1, 3), 0, 4]), ("outside", FULL)),
                 "move 1 1/2 0 0 -3 0 0 0 -7/5 -1/3 0 4\n  outside\n    full"),
                (("half", (BIG, -BIG, 0, -1), 1), f"half {BIG} -{BIG} 0 -1 +")):
            self.assert_same(expression_text(expression), text)
            self.assert_same(parse_expression(text), expression)

    def test_many_and_back(self):
        chooser = random.Random(1)
        for _ in range(60):
            expression = some_expression(chooser, some_planes(chooser, 4), chooser.randint(1, 9))
            if chooser.random() < 0.5:
                move = chooser.choice((quarter_turn(1), mirror_axis(2), shift_by(some_point(chooser))))
                expression = ("join", ("move", move, expression), FULL)
            if depth(expression) <= 16:
                self.assert_same(parse_expression(expression_text(expression)), expression)
        for expression in list(BOUNDED.values()) + list(NOT_BOUNDED.values()) + [CHECKERED]:
            self.assert_same(parse_expression(expression_text(expression)), expression)

    def test_texts_beyond_the_limits_are_written(self):
        text = expression_text(outsides(39))
        self.assertEqual(text.split("\n")[-1], " " * 78 + "full")
        self.assertEqual(len(expression_text(joined(400)).split("\n")), 799)

    def test_long_words(self):
        long = "1" + "0" * 799
        self.assert_same(parse_expression(f"half 1 0 0 -{long} +"), ("half", (1, 0, 0, -int(long)), 1))
        text = f"move 1/{long} 0 0 0 1 0 0 0 1 0 {long} -{long}/7\n  full"
        move = parse_expression(text)[1]
        self.assert_same(move[0][0][0], (1, int(long)))
        self.assert_same(move[1], ((0, 1), (int(long), 1), (-int(long), 7)))
        self.assert_same(expression_text(("move", move, FULL)), text)


class TestFaults(SpaceTest):

    def assert_fault(self, text, line, place):
        self.assert_error("TextFault", parse_expression, text, line=line, place=place)

    def assert_fault_of_words(self, words, place):
        """The fault, in a first line and in a later one."""
        self.assert_fault(words, 1, place)
        self.assert_fault("join\n  full\n  " + words, 3, place)
        self.assert_fault("outside\n  " + words + "\nx", 2, place)

    def test_the_first_word(self):
        for words in ("", "x", "Empty", "in", "out", "cut 1 0 0 0", "half\t1", "joins", "moves", "halves", "take\t", "0", "+"):
            self.assert_fault_of_words(words, 1)

    def test_the_empty_text(self):
        self.assert_fault("", 1, 1)

    def test_the_indentation(self):
        for text, line in (
                (" full", 1), ("  full", 1), (" ", 1), ("  ", 1), (" x", 1), ("join\nfull", 2), ("join\n full", 2),
                ("join\n   full", 2), ("join\n    full", 2), ("join\n", 2), ("join\n ", 2), ("join\n   ", 2),
                ("join\n  full\n", 3), ("join\n  full\nfull", 3), ("join\n  full\n    full", 3),
                ("outside\n  join\n  full", 3), ("join\n  outside\n    full\n    full", 4), (" half 0 0 2 4", 1),
                (f"move {UNIT} 0 0 0\nfull", 2)):
            self.assert_fault(text, line, 0)

    def test_a_line_of_spaces_alone(self):
        self.assert_fault("join\n  ", 2, 1)
        self.assert_fault("join\n  full\n  ", 3, 1)
        self.assert_fault("join\n  full\n   ", 3, 0)
        self.assert_fault("outside\n  outside\n    ", 3, 1)

    def test_words_of_a_plane(self):
        for words, place in (
                ("half x 0 0 0 +", 2), ("half 1 x 0 0 +", 3), ("half 1 0 x 0 +", 4), ("half 1 0 0 x +", 5),
                ("half +1 0 0 0 +", 2), ("half 1 -0 0 0 +", 3), ("half 1 0 00 0 +", 4), ("half 1 0 0 1/2 +", 5),
                ("half  1 0 0 0 +", 2), ("half 1 0 0  0 +", 5), ("half 0 0 x 4 +", 4), ("half 0 0 2 x +", 5),
                ("half x y", 2), ("half 1 0 0 0. +", 5), ("half - 0 0 0 +", 2), ("half 1 0 0 ", 5), ("half ", 2)):
            self.assert_fault_of_words(words, place)

    def test_four_integers_that_are_no_plane(self):
        for words in (
                "0 0 2 4", "0 0 2 4 +", "0 0 2 4 x", "0 0 2 4 + +", "0 0 0 0 +", "0 0 0 1 +", "-1 0 0 0 +",
                "0 -1 0 0 -", "0 0 -1 5 +", "2 0 0 0 +", "3 6 9 12 -", "0 0 2 4 "):
            self.assert_fault_of_words("half " + words, 2)

    def test_the_side(self):
        for words in ("half 1 0 0 0 x", "half 1 0 0 0 1", "half 1 0 0 0 -1", "half 1 0 0 0 ", "half 1 0 0 0 ++",
                      "half 1 0 0 0 x y", "half 1 0 0 0  +"):
            self.assert_fault_of_words(words, 6)

    def test_words_of_a_move(self):
        numbers = (UNIT + " 0 0 0").split(" ")
        for place in range(2, 14):
            for wrong in ("x", "", "1/1", "2/4", "+1", "-0", "1/-2", "00", "0/5", "1.5", "--1", "1/0"):
                words = ["move"] + numbers
                words[place - 1] = wrong
                self.assert_fault(" ".join(words) + "\n  full", 1, place)
        self.assert_fault_of_words("move 1 0 0 0 1 0 0 0 x y", 10)
        self.assert_fault_of_words("move x " + UNIT, 2)

    def test_a_matrix_with_determinant_zero(self):
        zero = "1 0 0 0 1 0 1 1 0"
        for words in (
                zero, zero + " ", zero + " x", zero + " 0 0 0", zero + " 0 0 0 0", zero + " 1/1 0 0", "0 0 0 0 0 0 0 0 0 0 0 0",
                "1/2 1/3 0 3 2 0 0 0 1 1 1 1", "1 2 3 4 5 6 7 8 9 0 0 x"):
            self.assert_fault_of_words("move " + words, 2)
        self.assert_fault_of_words("move 1 0 0 0 1 0 1 1 x", 10)
        self.assert_fault_of_words("move 1 0 0 0 1 0 1 1", 10)

    def test_missing_words(self):
        for words, place in (
                ("half", 2), ("half 1", 3), ("half 1 0", 4), ("half 1 0 0", 5), ("half 1 0 0 0", 6), ("half 0 0 2", 5),
                ("move", 2), ("move 1", 3), ("move 1 0 0 0 1 0 0 0", 10), (f"move {UNIT}", 11), (f"move {UNIT} 0", 12),
                (f"move {UNIT} 0 0", 13)):
            self.assert_fault_of_words(words, place)

    def test_further_words(self):
        for words, place in (
                ("full full", 2), ("empty ", 2), ("join x", 2), ("meet  ", 2), ("take 1", 2), ("outside full", 2),
                ("half 1 0 0 0 + +", 7), ("half 1 0 0 0 - ", 7), (f"move {UNIT} 0 0 0 0", 14), (f"move {UNIT} 0 0 0 ", 14),
                (f"move {UNIT} 0 0 0 x y", 14)):
            self.assert_fault_of_words(words, place)

    def test_words_with_too_many_digits(self):
        long = "1" + "0" * 800
        for place in (2, 3, 4, 5):
            words = "half 1 0 0 0 +".split(" ")
            words[place - 1] = "-" + long
            self.assert_fault(" ".join(words), 1, place)
        for place in range(2, 14):
            for wrong in (long, "-" + long, "1/" + long, long + "/3"):
                words = (f"move {UNIT} 0 0 0").split(" ")
                words[place - 1] = wrong
                self.assert_fault(" ".join(words) + "\n  full", 1, place)

    def test_digits_of_other_scripts(self):
        self.assert_fault("half \u0661 0 0 0 +", 1, 2)

    def test_texts_that_end_too_early(self):
        for text, line in (
                ("join\n  full", 3), ("join", 2), ("outside", 2), (f"move {UNIT} 0 0 0", 2), ("take\n  outside\n    full", 4),
                ("meet\n  join\n    full\n    full", 5)):
            self.assert_fault(text, line, 0)

    def test_lines_after_the_last_node(self):
        for rest in ("", "full", "  full", "x", "half 0 0 2 4", "full\nx", "\n", "  "):
            self.assert_fault("full\n" + rest, 2, 0)
            self.assert_fault("join\n  full\n  empty\n" + rest, 4, 0)
            self.assert_fault("half 1 0 0 0 +\n" + rest, 2, 0)

    def test_the_first_faulty_line_is_told(self):
        self.assert_fault("join\n  x\nfull", 2, 1)
        self.assert_fault("join x\n full", 1, 2)
        self.assert_fault("join\n  full\n  half 1 0 0\nfull", 3, 5)


class TestLimits(SpaceTest):

    def test_at_the_limits(self):
        for expression, measures in (
                (joined(32), (63, 6, 0)), (("outside", joined(32)), (64, 7, 0)), (outsides(15), (16, 16, 0)),
                (meet_of_levels(12), (23, 5, 12))):
            self.assertEqual((size(expression), depth(expression), len(planes_of(expression))), measures)
            self.assert_same(parse_expression(expression_text(expression)), expression)

    def test_beyond_one_limit(self):
        for expression, what in (
                (joined(33), "size"), (outsides(16), "depth"), (outsides(63), "depth"), (meet_of_levels(13), "planes"),
                (("join", meet_of_levels(7), ("move", shift_by(point(0, 0, 7)), meet_of_levels(6))), "planes")):
            self.assert_error("TooLarge", parse_expression, expression_text(expression), what=what)

    def test_beyond_several_limits(self):
        for expression, what in (
                (outsides(64), "size"), (outsides(149), "size"), (("join", joined(32), meet_of_levels(13)), "size"),
                (outsides(16, meet_of_levels(13)), "depth"), (outsides(60, meet_of_levels(13)), "size"),
                (nested(74, FULL, lambda x: ("join", x, EMPTY)), "size")):
            self.assert_error("TooLarge", parse_expression, expression_text(expression), what=what)

    def test_moved_planes_count(self):
        # The planes are equal after the move, so there are twelve.
        expression = ("join", meet_of_levels(12), ("move", shift_by(point(0, 0, 2)), meet_of_levels(10)))
        self.assert_same(parse_expression(expression_text(expression)), expression)

    def test_a_fault_comes_before_every_limit(self):
        text = expression_text(outsides(148))
        self.assert_error("TextFault", parse_expression, text + "x", line=149, place=1)
        self.assert_error("TextFault", parse_expression, text + "\n", line=150, place=0)
        self.assert_error("TextFault", parse_expression, text + " x", line=149, place=2)
        self.assert_error(
            "TextFault", parse_expression, expression_text(outsides(16, meet_of_levels(13)))[:-1] + "0",
            line=41, place=6)


class TestExamples(SpaceTest):

    def test_in_the_words_of_the_interface(self):
        self.assert_error("TextFault", parse_expression, "join\n  full", line=3, place=0)
        self.assert_error("TextFault", parse_expression, "half 0 0 2 4 +", line=1, place=2)


if __name__ == "__main__":
    unittest.main()
