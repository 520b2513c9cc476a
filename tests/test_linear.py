"""Linear equations (point 11)."""

import unittest
from copy import deepcopy
from fractions import Fraction
from math import gcd
from random import Random

from bestodds import linear
from bestodds.linear import solve


def pairs(values):
    """Integers and Fractions as the package writes them."""
    return [(Fraction(value).numerator, Fraction(value).denominator) for value in values]


def solved(rows, right):
    return solve([pairs(row) for row in rows], pairs(right))


def random_fraction(random, most):
    return Fraction(random.randint(-most, most), random.randint(1, most))


class SolveTest(unittest.TestCase):

    def assert_solution(self, rows, right, expected):
        found = solved(rows, right)
        self.assertEqual(found, pairs(expected))
        self.assertIs(type(found), list)
        for value in found:
            self.assertIs(type(value), tuple)
            self.assertEqual([type(part) for part in value], [int, int])
            self.assertGreaterEqual(value[1], 1)
            self.assertEqual(gcd(*value), 1)

    def assert_right(self, rows, right):
        """The found values, put into the equations, keep to them."""
        values = [Fraction(*value) for value in solved(rows, right)]
        for row, expected in zip(rows, right):
            self.assertEqual(sum(x * value for x, value in zip(row, values)), expected)

    def test_everything_is_defined_in_the_file(self):
        self.assertEqual(solve.__module__, "bestodds.linear")
        self.assertIs(linear.solve, solve)

    def test_no_unknowns(self):
        found = solve([], [])
        self.assertEqual(found, [])
        self.assertIs(type(found), list)
        self.assertIsNot(solve([], []), found)

    def test_one_unknown(self):
        self.assert_solution([[2]], [6], [3])
        self.assert_solution([[4]], [6], [Fraction(3, 2)])
        self.assert_solution([[-4]], [6], [Fraction(-3, 2)])
        self.assert_solution([[-4]], [-6], [Fraction(3, 2)])
        self.assert_solution([[Fraction(2, 3)]], [Fraction(4, 9)], [Fraction(2, 3)])
        self.assert_solution([[Fraction(-1, 7)]], [0], [0])
        self.assertIsNone(solved([[0]], [0]))
        self.assertIsNone(solved([[0]], [1]))

    def test_two_unknowns(self):
        self.assert_solution([[1, 2], [3, 4]], [5, 6], [-4, Fraction(9, 2)])
        self.assert_solution([[Fraction(1, 2), Fraction(1, 3)], [Fraction(1, 4), Fraction(-1, 5)]],
                             [1, 0], [Fraction(12, 11), Fraction(15, 11)])

    def test_the_first_coefficient_is_zero(self):
        self.assert_solution([[0, 1], [1, 0]], [5, 7], [7, 5])
        self.assert_solution([[0, 2], [3, 4]], [5, 7], [-1, Fraction(5, 2)])
        self.assert_solution([[0, 0, 2], [0, 3, 1], [5, 1, 1]], [4, 5, 8], [1, 1, 2])
        self.assert_solution([[0, 1, 0], [0, 0, 1], [1, 0, 0]], [1, 2, 3], [3, 1, 2])

    def test_a_coefficient_becomes_zero(self):
        self.assert_solution([[1, 1, 1], [2, 2, 1], [1, 2, 1]], [6, 9, 8], [1, 2, 3])
        self.assert_solution([[1, 2, 3], [2, 4, 1], [3, 1, 2]], [14, 13, 11], [1, 2, 3])

    def test_zeros_on_the_right(self):
        self.assert_solution([[1, 2], [3, 4]], [0, 0], [0, 0])

    def test_more_than_one_solution(self):
        self.assertIsNone(solved([[1, 2], [2, 4]], [3, 6]))
        self.assertIsNone(solved([[1, 2, 3], [4, 5, 6], [5, 7, 9]], [1, 2, 3]))
        self.assertIsNone(solved([[1, 2, 3], [5, 7, 9], [4, 5, 6]], [1, 3, 2]))
        self.assertIsNone(solved([[0, 0], [1, 1]], [0, 1]))
        self.assertIsNone(solved([[1, 0], [1, 0]], [1, 1]))
        self.assertIsNone(solved([[0, 1], [0, 1]], [1, 1]))
        self.assertIsNone(solved([[0, 0], [0, 0]], [0, 0]))
        self.assertIsNone(solved([[1, 1, 0], [0, 0, 0], [0, 1, 1]], [2, 0, 2]))

    def test_no_solution(self):
        self.assertIsNone(solved([[1, 2], [2, 4]], [3, 7]))
        self.assertIsNone(solved([[1, 2], [1, 2]], [3, 4]))
        self.assertIsNone(solved([[1, 2, 3], [4, 5, 6], [5, 7, 9]], [1, 2, 4]))
        self.assertIsNone(solved([[0, 0], [1, 1]], [1, 1]))
        self.assertIsNone(solved([[0, 1], [0, 1]], [1, 2]))
        self.assertIsNone(solved([[1, 0, 0], [0, 0, 1], [0, 0, 1]], [1, 1, 2]))
        third = Fraction(1, 3)
        self.assertIsNone(solved([[third, 1], [1, 3]], [1, 2]))

    def test_rows_that_are_sums_and_multiples(self):
        random = Random(8)
        for many in (2, 3, 5, 9, 20):
            rows = [[random_fraction(random, 9) for _ in range(many)] for _ in range(many)]
            for right in ([Fraction(0)] * many, [random_fraction(random, 9) for _ in range(many)]):
                twice = [[Fraction(-7, 3) * x for x in rows[0]]] + rows[1:]
                self.assertIsNone(solved(twice[:1] + rows[:1] + rows[2:], right))
                self.assertIsNone(solved(rows[:1] + rows[2:] + twice[:1], right))
                total = [x + y for x, y in zip(rows[0], rows[-1])]
                if many > 2:
                    self.assertIsNone(solved(rows[:1] + [total] + rows[2:], right))
                nothing = [[Fraction(0)] * many]
                self.assertIsNone(solved(rows[:-1] + nothing, right))
                self.assertIsNone(solved(nothing + rows[1:], right))
                for column in (0, many // 2, many - 1):
                    bare = [row[:column] + [Fraction(0)] + row[column + 1:] for row in rows]
                    self.assertIsNone(solved(bare, right))

    def test_random_equations(self):
        random = Random(9)
        for many in list(range(1, 13)) * 4 + [20, 21, 30]:
            rows = [[random_fraction(random, 20) for _ in range(many)] for _ in range(many)]
            self.assert_right(rows, [random_fraction(random, 20) for _ in range(many)])

    def test_many_zeros(self):
        random = Random(10)
        solutions = 0
        for _ in range(300):
            many = random.randint(2, 6)
            rows = [[Fraction(random.choice((0, 0, 1, -1, 2))) for _ in range(many)] for _ in range(many)]
            right = [Fraction(random.randint(-2, 2)) for _ in range(many)]
            if solved(rows, right) is not None:
                solutions += 1
                self.assert_right(rows, right)
                self.assertNotEqual(determinant(rows), 0)
            else:
                self.assertEqual(determinant(rows), 0)
        self.assertTrue(50 < solutions < 250)

    def test_sixty_unknowns(self):
        steps = [[int(row == column) * 2 - int(abs(row - column) == 1) for column in range(60)]
                 for row in range(60)]
        self.assert_solution(steps, [0] * 59 + [1], [Fraction(at, 61) for at in range(1, 61)])
        turned = [[int((row + column) % 60 == 7) for column in range(60)] for row in range(60)]
        self.assert_solution(turned, list(range(60)), [(7 - at) % 60 for at in range(60)])
        self.assertIsNone(solved(steps[:59] + steps[:1], [0] * 60))

    def test_great_numbers(self):
        great = 10 ** 40 + 7
        self.assertIsNone(solved([[great, 1], [1, Fraction(1, great)]], [great + 1, 2]))
        self.assert_solution([[great, 1], [1, Fraction(2, great)]], [great + 1, 1 + Fraction(2, great)], [1, 1])

    def test_arguments_are_as_before(self):
        rows, right = [pairs([0, 2]), pairs([Fraction(1, 3), 4])], pairs([5, Fraction(1, 7)])
        before = deepcopy((rows, right))
        first = solve(rows, right)
        first.clear()
        self.assertEqual(len(solve(rows, right)), 2)
        self.assertEqual((rows, right), before)


def determinant(rows):
    """By the first row, slowly."""
    if not rows:
        return Fraction(1)
    return sum((-1) ** at * x * determinant([row[:at] + row[at + 1:] for row in rows[1:]])
               for at, x in enumerate(rows[0]) if x != 0)


if __name__ == "__main__":
    unittest.main()
