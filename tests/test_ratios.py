"""Points 6, 7 and, for names, 59."""

import random
import unittest
from fractions import Fraction

from everypoint.ratios import (
    add, as_ratio, compare, divide, is_name, is_ratio, middle, multiply, negate, parse_ratio, ratio, ratio_text, sign,
    sort_ratios, subtract)
from support import BIG, SpaceTest

SAMPLES = [
    (0, 1), (1, 1), (-1, 1), (1, 2), (-1, 2), (3, 2), (-7, 3), (2, 7), (BIG, 1), (-BIG, 1), (BIG, BIG - 1),
    (-BIG, BIG - 1), (1, BIG), (-1, BIG), (BIG - 1, BIG), (5, 6), (-5, 6), (10, 3),
]


def pair(fraction):
    return (fraction.numerator, fraction.denominator)


class TestMaking(SpaceTest):

    def test_lowest_terms_and_sign(self):
        self.assert_same(ratio(6, -4), (-3, 2))
        self.assert_same(ratio(-6, -4), (3, 2))
        self.assert_same(ratio(-6, 4), (-3, 2))
        self.assert_same(ratio(5), (5, 1))
        self.assert_same(ratio(0, -7), (0, 1))
        self.assert_same(ratio(0), (0, 1))
        self.assert_same(ratio(4, 4), (1, 1))

    def test_great_integers(self):
        self.assert_same(ratio(BIG, -BIG), (-1, 1))
        self.assert_same(ratio(-BIG, BIG - 1), (-BIG, BIG - 1))
        self.assert_same(ratio(10 ** 39, -(10 ** 38) * 4), (-5, 2))

    def test_zero_denominator(self):
        for top in (0, 1, -1, BIG, -BIG):
            self.assert_error("ZeroDenominator", ratio, top, 0)

    def test_against_fractions(self):
        for top in range(-12, 13):
            for bottom in range(-12, 13):
                if bottom:
                    self.assert_same(ratio(top, bottom), pair(Fraction(top, bottom)))

    def test_as_ratio(self):
        self.assert_same(as_ratio(-3), (-3, 1))
        self.assert_same(as_ratio(0), (0, 1))
        self.assert_same(as_ratio(BIG), (BIG, 1))
        self.assert_same(as_ratio((-3, 2)), (-3, 2))


class TestIsRatio(SpaceTest):

    def test_ratios(self):
        for x in SAMPLES:
            self.assertIs(is_ratio(x), True)

    def test_others(self):
        for value in (
                (2, 4), (1, 0), (0, 2), (1, -1), (-1, -2), (0, 0), (0, -1), 1, [1, 2], (1,), (1, 2, 3), (True, 1),
                (1, True), (False, 1), ("1", 1), (1, None), ((1, 1), 1), (BIG, BIG)):
            self.assertIs(is_ratio(value), False, value)

    def test_any_plain_value(self):
        self.assert_takes_plain_values(is_ratio, right=[(1, 2), (-1, 2)])


class TestReckoning(SpaceTest):

    def test_two_ratios(self):
        for x in SAMPLES:
            for y in SAMPLES:
                left, right = Fraction(*x), Fraction(*y)
                self.assert_same(add(x, y), pair(left + right))
                self.assert_same(subtract(x, y), pair(left - right))
                self.assert_same(multiply(x, y), pair(left * right))
                self.assert_same(middle(x, y), pair((left + right) / 2))
                self.assert_same(compare(x, y), (left > right) - (left < right))
                if right:
                    self.assert_same(divide(x, y), pair(left / right))

    def test_one_ratio(self):
        for x in SAMPLES:
            self.assert_same(negate(x), pair(-Fraction(*x)))
            self.assert_same(sign(x), (x[0] > 0) - (x[0] < 0))

    def test_division_by_zero(self):
        for x in SAMPLES:
            self.assert_error("ZeroDenominator", divide, x, (0, 1))

    def test_compared_by_value_and_not_as_tuples(self):
        self.assertEqual(compare((1, 3), (1, 2)), -1)
        self.assertEqual(compare((3, 2), (2, 1)), -1)
        self.assertEqual(compare((-1, 2), (-1, 3)), -1)


class TestSorting(SpaceTest):

    def test_ascending_without_duplicates(self):
        self.assert_same(sort_ratios([(1, 2), (1, 3), (-2, 1), (1, 2), (0, 1)]), [(-2, 1), (0, 1), (1, 3), (1, 2)])
        self.assert_same(sort_ratios([]), [])
        self.assert_same(sort_ratios([(7, 3)] * 5), [(7, 3)])

    def test_close_neighbours(self):
        close = [(BIG, BIG - 1), (BIG - 1, BIG - 2), (1, 1), (BIG - 1, BIG), (BIG - 2, BIG - 1), (1, BIG), (1, BIG - 1)]
        expected = [pair(x) for x in sorted(Fraction(*x) for x in close)]
        self.assert_same(sort_ratios(close), expected)
        self.assert_same(sort_ratios([negate(x) for x in close]), [negate(x) for x in reversed(expected)])

    def test_close_neighbours_of_zero(self):
        for listed in ([(1, BIG), (1, BIG - 1)], [(1, BIG - 1), (1, BIG)]):
            self.assert_same(sort_ratios(listed), [(1, BIG), (1, BIG - 1)])

    def test_against_fractions(self):
        chooser = random.Random(7)
        for _ in range(100):
            values = [
                ratio(chooser.randint(-20, 20), chooser.randint(1, 9)) for _ in range(chooser.randint(0, 30))]
            before = list(values)
            self.assert_same(sort_ratios(values), [pair(x) for x in sorted({Fraction(*x) for x in values})])
            self.assertEqual(values, before)


class TestWords(SpaceTest):

    def test_words_and_back(self):
        for x, word in (
                ((0, 1), "0"), ((5, 1), "5"), ((-5, 1), "-5"), ((1, 2), "1/2"), ((-3, 2), "-3/2"), ((10, 1), "10"),
                ((BIG, 1), "9" * 40), ((-1, BIG), "-1/" + "9" * 40)):
            self.assert_same(ratio_text(x), word)
            self.assert_same(parse_ratio(word), x)

    def test_words_of_samples(self):
        for x in SAMPLES:
            self.assert_same(parse_ratio(ratio_text(x)), x)

    def test_800_digits(self):
        longest = "7" * 800
        self.assert_same(parse_ratio(longest), (int(longest), 1))
        self.assert_same(parse_ratio("-" + longest), (-int(longest), 1))
        bottom = "1" + "0" * 799
        self.assert_same(parse_ratio("-" + longest + "/" + bottom), (-int(longest), int(bottom)))
        self.assert_same(ratio_text((-int(longest), int(bottom))), "-" + longest + "/" + bottom)
        self.assert_same(parse_ratio("1/" + bottom), (1, int(bottom)))

    def test_801_digits(self):
        long = "7" * 801
        for word in (long, "-" + long, long + "/2", "-" + long + "/2", "1/" + long, "-1/" + long, "1" + "0" * 800):
            self.assert_error("TextFault", parse_ratio, word, line=1, place=1)

    def test_texts_that_are_no_words(self):
        for text in (
                "2/4", "3/1", "-0", "+1", "1/-2", "", " ", "1 ", " 1", "1/ 2", "1 /2", "\n", "1\n", "\n1", "1/2\n", "-",
                "--1", "-+1", "1-", "/", "1/", "/2", "-/2", "1//2", "1/2/3", "0/1", "0/2", "-0/1", "-0/2", "1/0", "0/0",
                "00", "01", "-01", "1/02", "01/2", "1/1", "2/2", "+1/2", "1/+2", "1.0", "1e3", "0x1", "1_0", "a", "1a",
                "x/2", "6/4", "-2/4", "one", "1,2", "1/2 ", "~"):
            self.assert_error("TextFault", parse_ratio, text, line=1, place=1)

    def test_digits_of_other_scripts(self):
        for text in ("\u0661", "1\u0662", "\u00b2", "1/\u0662"):
            self.assert_error("TextFault", parse_ratio, text, line=1, place=1)


class TestNames(SpaceTest):

    def test_names(self):
        for name in ("a", "z", "box", "a1", "z9z9", "abcdefghijkl", "a00000000000", "make"):
            self.assertIs(is_name(name), True, name)

    def test_others(self):
        for value in (
                "", "1", "1a", "A", "aB", "a_b", "a b", " a", "a ", "a\n", "\na", "abcdefghijklm", "a" * 1000, "\u00e9",
                "a\u00e9", "a\u0661", "a-", "-", "a.b", None, 1, True, ["a"], ("a",), {"a": 1}):
            self.assertIs(is_name(value), False, value)

    def test_any_plain_value(self):
        self.assert_takes_plain_values(is_name, right=["in", "out", "on", "a", "half"])


if __name__ == "__main__":
    unittest.main()
