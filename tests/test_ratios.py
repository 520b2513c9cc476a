"""Fractions (points 1 and 2)."""

import unittest
from fractions import Fraction
from itertools import product
from math import gcd

from bestodds import ratios
from bestodds.errors import BestoddsError, InvalidRatio
from bestodds.ratios import (format_ratio, is_better, is_fraction, is_less, minus, over, parse_ratio, plus,
                             ratio, times)

BIG = 10 ** 9
HUGE = 10 ** 40 + 7

# Fractions in their form: small and large ones, equal and neighbouring ones.
SAMPLES = [
    (0, 1), (1, 1), (-1, 1), (1, 2), (-1, 2), (1, 3), (-2, 3), (7, 6), (-5, 6), (12, 1),
    (BIG, 1), (1, BIG), (BIG + 1, BIG), (-BIG, BIG + 1), (BIG, BIG + 1),
    (HUGE, BIG), (-HUGE, HUGE + 1), (HUGE, HUGE + 1), (HUGE + 1, HUGE + 2), (1, HUGE),
]


class RatioCase(unittest.TestCase):

    def assert_form(self, a):
        """A fraction is a tuple of two integers in lowest terms, d at least 1."""
        self.assertIs(type(a), tuple)
        self.assertEqual([type(part) for part in a], [int, int])
        self.assertGreaterEqual(a[1], 1)
        self.assertEqual(gcd(a[0], a[1]), 1)

    def assert_is(self, a, expected):
        """The fraction a has its form and is the number `expected`."""
        self.assert_form(a)
        self.assertEqual(Fraction(*a), expected)


class RatioTest(RatioCase):

    def test_everything_is_defined_in_the_file(self):
        for name in ("ratio", "plus", "minus", "times", "over", "is_less",
                     "format_ratio", "parse_ratio"):
            self.assertEqual(getattr(ratios, name).__module__, "bestodds.ratios")

    def test_lowest_terms(self):
        self.assertEqual(ratio(6, 4), (3, 2))
        self.assertEqual(ratio(3, 2), (3, 2))
        self.assertEqual(ratio(8, 4), (2, 1))
        self.assertEqual(ratio(1, 12), (1, 12))

    def test_signs(self):
        self.assertEqual(ratio(-6, 4), (-3, 2))
        self.assertEqual(ratio(6, -4), (-3, 2))
        self.assertEqual(ratio(-6, -4), (3, 2))
        self.assertEqual(ratio(5, -1), (-5, 1))
        self.assertEqual(ratio(-5, -5), (1, 1))

    def test_zero(self):
        for d in (1, 2, -1, -7, BIG, -HUGE):
            self.assertEqual(ratio(0, d), (0, 1))

    def test_all_small_ones(self):
        for n, d in product(range(-12, 13), range(-12, 13)):
            if d != 0:
                self.assert_is(ratio(n, d), Fraction(n, d))

    def test_large_ones(self):
        self.assertEqual(ratio(6 * HUGE, 4 * HUGE), (3, 2))
        self.assertEqual(ratio(BIG * HUGE, -BIG * (HUGE + 1)), (-HUGE, HUGE + 1))


class ArithmeticTest(RatioCase):

    def test_plain_examples(self):
        self.assertEqual(plus((1, 2), (1, 6)), (2, 3))
        self.assertEqual(minus((1, 2), (1, 6)), (1, 3))
        self.assertEqual(times((2, 3), (3, 4)), (1, 2))
        self.assertEqual(over((2, 3), (4, 3)), (1, 2))

    def test_results_that_are_zero(self):
        self.assertEqual(plus((-2, 3), (2, 3)), (0, 1))
        self.assertEqual(minus((5, 6), (5, 6)), (0, 1))
        self.assertEqual(times((0, 1), (-5, 6)), (0, 1))
        self.assertEqual(over((0, 1), (-5, 6)), (0, 1))

    def test_results_that_are_negative(self):
        self.assertEqual(plus((1, 6), (-1, 2)), (-1, 3))
        self.assertEqual(minus((1, 6), (1, 2)), (-1, 3))
        self.assertEqual(times((-2, 3), (3, 4)), (-1, 2))
        self.assertEqual(over((2, 3), (-4, 3)), (-1, 2))

    def test_two_negative_ones(self):
        self.assertEqual(times((-2, 3), (-3, 4)), (1, 2))
        self.assertEqual(over((-2, 3), (-4, 3)), (1, 2))

    def test_all_samples_also_large_ones(self):
        for a, b in product(SAMPLES, SAMPLES):
            x, y = Fraction(*a), Fraction(*b)
            with self.subTest(a=a, b=b):
                self.assert_is(plus(a, b), x + y)
                self.assert_is(minus(a, b), x - y)
                self.assert_is(times(a, b), x * y)
                if b != (0, 1):
                    self.assert_is(over(a, b), x / y)

    def test_many_steps_stay_exact(self):
        total = (0, 1)
        for d in range(1, 101):
            total = plus(total, (1, d))
        for d in range(1, 101):
            total = minus(total, (1, d))
        self.assertEqual(total, (0, 1))


class IsLessTest(RatioCase):

    def test_plain_examples(self):
        self.assertIs(is_less((1, 3), (1, 2)), True)
        self.assertIs(is_less((1, 2), (1, 3)), False)
        self.assertIs(is_less((1, 2), (1, 2)), False)
        self.assertIs(is_less((-1, 2), (-1, 3)), True)
        self.assertIs(is_less((-1, 3), (-1, 2)), False)
        self.assertIs(is_less((-1, 2), (-1, 2)), False)
        self.assertIs(is_less((-1, 2), (1, 3)), True)
        self.assertIs(is_less((0, 1), (0, 1)), False)

    def test_all_samples_also_large_ones(self):
        for a, b in product(SAMPLES, SAMPLES):
            with self.subTest(a=a, b=b):
                self.assertIs(is_less(a, b), Fraction(*a) < Fraction(*b))


class HelpersTest(RatioCase):
    """What the rest of the program asks of fractions beyond the interface."""

    def test_is_better(self):
        for a, b in product(SAMPLES, repeat=2):
            self.assertIs(is_better(a, b, True), Fraction(*a) > Fraction(*b))
            self.assertIs(is_better(a, b, False), Fraction(*a) < Fraction(*b))

    def test_is_fraction(self):
        for n, d in product(range(-6, 7), repeat=2):
            self.assertIs(is_fraction((n, d)), d > 0 and gcd(n, d) == 1)
        for a in SAMPLES:
            self.assertIs(is_fraction(a), True)
            self.assertIs(is_fraction((a[0] * 3, a[1] * 3)), False)
            self.assertIs(is_fraction((-a[0], -a[1])), False)


class FormatTest(RatioCase):

    def test_whole_numbers(self):
        self.assertEqual(format_ratio((0, 1)), "0")
        self.assertEqual(format_ratio((7, 1)), "7")
        self.assertEqual(format_ratio((-7, 1)), "-7")
        self.assertEqual(format_ratio((100, 1)), "100")

    def test_other_fractions(self):
        self.assertEqual(format_ratio((1, 2)), "1/2")
        self.assertEqual(format_ratio((-1, 2)), "-1/2")
        self.assertEqual(format_ratio((120, 7)), "120/7")
        self.assertEqual(format_ratio((-3, 100)), "-3/100")

    def test_numbers_of_every_length(self):
        for length in range(1, 200):
            for n in (10 ** length - 1, 10 ** length, 10 ** length + 1):
                self.assertEqual(format_ratio((n, 1)), str(n))
                self.assertEqual(format_ratio((-n, n + 1)), f"-{n}/{n + 1}")

    def test_4000_digits(self):
        n, d = 10 ** 4000 - 1, 10 ** 3999
        text = "9" * 4000 + "/1" + "0" * 3999
        self.assertEqual(format_ratio((n, d)), text)
        self.assertEqual(format_ratio((-n, d)), "-" + text)

    def test_somewhat_more_than_4000_digits(self):
        n, d = 10 ** 4500 - 1, 10 ** 4500
        self.assertEqual(format_ratio((n, d)), "9" * 4500 + "/1" + "0" * 4500)


class ParseTest(RatioCase):

    def assert_invalid(self, text):
        with self.subTest(text=text), self.assertRaises(InvalidRatio) as caught:
            parse_ratio(text)
        self.assertIsInstance(caught.exception, BestoddsError)

    def test_whole_numbers(self):
        self.assertEqual(parse_ratio("0"), (0, 1))
        self.assertEqual(parse_ratio("7"), (7, 1))
        self.assertEqual(parse_ratio("-7"), (-7, 1))
        self.assertEqual(parse_ratio("100"), (100, 1))

    def test_other_fractions(self):
        self.assertEqual(parse_ratio("1/2"), (1, 2))
        self.assertEqual(parse_ratio("-1/2"), (-1, 2))
        self.assertEqual(parse_ratio("7/1"), (7, 1))
        self.assertEqual(parse_ratio("-10/1"), (-10, 1))

    def test_not_in_lowest_terms(self):
        self.assertEqual(parse_ratio("6/4"), (3, 2))
        self.assertEqual(parse_ratio("-6/4"), (-3, 2))
        self.assertEqual(parse_ratio("8/4"), (2, 1))
        self.assertEqual(parse_ratio("0/4"), (0, 1))
        self.assertEqual(parse_ratio("0/1"), (0, 1))

    def test_30_digits_in_each_part(self):
        n, d = 10 ** 30 - 1, 10 ** 30 - 2
        self.assertEqual(parse_ratio(f"{n}/{d}"), (n, d))
        self.assertEqual(parse_ratio(f"-{n}/{d}"), (-n, d))
        self.assertEqual(parse_ratio(f"{n}"), (n, 1))
        self.assertEqual(parse_ratio(f"-{n}"), (-n, 1))

    def test_31_digits_in_a_part(self):
        long = "1" + "0" * 30
        for text in (long, "-" + long, long + "/1", "-" + long + "/1", "1/" + long,
                     long + "/" + long):
            self.assert_invalid(text)

    def test_denominators_of_zero(self):
        for text in ("1/0", "0/0", "-1/0", "12/0"):
            self.assert_invalid(text)

    def test_minus_zero(self):
        for text in ("-0", "-0/1", "-0/5", "-0/0", "-0/"):
            self.assert_invalid(text)

    def test_leading_zeros(self):
        for text in ("00", "01", "-01", "-00", "01/2", "1/02", "1/00", "0/00", "00/1", "-01/2"):
            self.assert_invalid(text)

    def test_signs(self):
        for text in ("+1", "+0", "+1/2", "1/+2", "--1", "-+1", "--1/2", "1/-2", "-1/-2",
                     "1-", "1-2", "1/2-", "-", "+", "--", "0/-1"):
            self.assert_invalid(text)

    def test_missing_parts(self):
        for text in ("", "/", "1/", "/2", "-/2", "-1/", "0/", "/0", "-/"):
            self.assert_invalid(text)

    def test_a_second_slash(self):
        for text in ("1/2/3", "1//2", "//", "1/2/", "/1/2", "-1/2/3"):
            self.assert_invalid(text)

    def test_other_characters(self):
        for text in (" ", " 1", "1 ", "1 2", "1 /2", "1/ 2", "- 1", " 1/2", "1/2 ", "\n", "1\n",
                     "\n1", "1/2\n", "1\n/2", "1/\n2", "a", "1a", "a1", "1/a", "1/2a", "x/2",
                     "0x1", "1e2", "1.5", "1,5", "1_000", "1/1_0", "1\\2", "None", "(1, 2)"):
            self.assert_invalid(text)

    def test_what_is_written_is_read_again(self):
        for a in SAMPLES:
            if len(str(abs(a[0]))) <= 30 and len(str(a[1])) <= 30:
                self.assertEqual(parse_ratio(format_ratio(a)), a)
        for n, d in product(range(-30, 31), range(1, 31)):
            self.assert_is(parse_ratio(f"{n}/{d}"), Fraction(n, d))
            self.assertEqual(parse_ratio(format_ratio(ratio(n, d))), ratio(n, d))


if __name__ == "__main__":
    unittest.main()
