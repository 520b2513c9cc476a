"""Best chances within a number of steps (point 24), worked out backwards in the test."""

import unittest
from copy import deepcopy
from fractions import Fraction
from itertools import product
from math import gcd
from random import Random

from bestodds import within
from bestodds.chances import best_chances
from bestodds.within import bounded_chances
from search import backwards, full_system, mean_over, pair, random_system, some_states, subsets


def go(*ends):
    """A choice that goes to each of these ends with the same chance."""
    return (0, tuple((end, 1) for end in ends))


class WithinTest(unittest.TestCase):

    def assert_within(self, system, allowed, targets, steps):
        """The chances and policies are those that are worked out backwards."""
        for most in (True, False):
            with self.subTest(system=system, allowed=allowed, targets=targets, steps=steps, most=most):
                values, policies = backwards(system, allowed, targets, steps, most)
                self.assertEqual(bounded_chances(system, allowed, targets, steps, most),
                                 ([pair(value) for value in values], policies))

    def assert_told(self, system, allowed, targets, steps, most, values, policies):
        found = bounded_chances(system, allowed, targets, steps, most)
        self.assertEqual(found, ([pair(Fraction(value)) for value in values], policies))
        self.assert_within(system, allowed, targets, steps)

    def test_everything_is_defined_in_the_file(self):
        self.assertEqual(bounded_chances.__module__, "bestodds.within")
        self.assertIs(within.bounded_chances, bounded_chances)

    def test_kinds_of_values(self):
        system = random_system(Random(40), 7, 3, 3)
        for steps, most in product((0, 1, 7), (True, False)):
            found = bounded_chances(system, [0, 1, 2, 3], [5], steps, most)
            self.assertEqual([type(found), *[type(part) for part in found]], [tuple, list, list])
            values, policies = found
            self.assertEqual((len(values), len(policies)), (7, steps))
            for value in values:
                self.assertEqual([type(value), *[type(part) for part in value]], [tuple, int, int])
                self.assertEqual(gcd(*value), 1)
            for policy in policies:
                self.assertIs(type(policy), tuple)
                self.assertEqual([type(number) for number in policy], [int] * 7)

    def test_0_steps(self):
        system = ((go(1),), (go(0),), (go(2),))
        for most in (True, False):
            self.assert_told(system, [0, 1], [1, 2], 0, most, [0, 1, 1], [])
            self.assert_told(system, [], [], 0, most, [0, 0, 0], [])

    def test_1_step(self):
        system = ((go(0), go(1, 2), go(1), go(1)), (go(0),), (go(1), go(2)))
        self.assert_told(system, [0, 2], [1], 1, True, [1, 1, 1], [(2, 0, 0)])
        self.assert_told(system, [0, 2], [1], 1, False, [0, 1, 0], [(0, 0, 1)])

    def test_several_steps(self):
        # The bold choice is best with one step left, the patient one with more.
        system = ((go(1), go(2, 3)), (go(2),), (go(2),), (go(3),))
        self.assert_told(system, [0, 1], [2], 1, True, [Fraction(1, 2), 1, 1, 0], [(1, 0, 0, 0)])
        self.assert_told(system, [0, 1], [2], 3, True, [1, 1, 1, 0],
                         [(1, 0, 0, 0), (0, 0, 0, 0), (0, 0, 0, 0)])
        self.assert_told(system, [0, 1], [2], 2, False, [Fraction(1, 2), 1, 1, 0], [(0, 0, 0, 0), (1, 0, 0, 0)])

    def test_30_steps(self):
        system = ((go(0, 1),), (go(1),))
        for most in (True, False):
            self.assert_told(system, [0], [1], 30, most, [1 - Fraction(1, 2 ** 30), 1], [(0, 0)] * 30)
        ring = tuple((go((state + 1) % 20),) for state in range(20))
        for most in (True, False):
            self.assert_told(ring, list(range(20)), [0], 18, most, [1, 0] + [1] * 18, [(0,) * 20] * 18)
            self.assert_told(ring, list(range(20)), [0], 30, most, [1] * 20, [(0,) * 20] * 30)

    def test_of_several_best_choices_the_first_one(self):
        system = ((go(2), go(1, 2), go(1), go(1), go(2)), (go(1), go(1)), (go(2), go(2)))
        self.assert_told(system, [0], [1], 2, True, [1, 1, 0], [(2, 0, 0), (2, 0, 0)])
        self.assert_told(system, [0], [1], 2, False, [0, 1, 0], [(0, 0, 0), (0, 0, 0)])
        # The same mean from other weights.
        system = (((0, ((1, 2), (2, 4))), (0, ((1, 1), (2, 2))), (0, ((1, 3), (2, 6)))), (go(1),), (go(2),))
        for most in (True, False):
            self.assert_told(system, [0], [1], 1, most, [Fraction(1, 3), 1, 0], [(0, 0, 0)])

    def test_the_number_of_a_choice_is_0_where_the_wish_has_ended(self):
        system = ((go(2), go(1), go(1)), (go(0), go(1)), (go(0), go(1)))
        for most, number in ((True, 1), (False, 0)):
            self.assertEqual(bounded_chances(system, [0], [1], 3, most)[1], [(number, 0, 0)] * 3)
            self.assertEqual(bounded_chances(system, [0, 1], [1], 3, most)[1], [(number, 0, 0)] * 3)
            self.assert_within(system, [0], [1], 3)

    def test_targets_and_allowed_states(self):
        system = random_system(Random(41), 4, 3, 2)
        for allowed, targets in product(subsets(4), repeat=2):
            self.assert_within(system, allowed, targets, 3)

    def test_no_targets_and_no_allowed_states(self):
        system = random_system(Random(42), 5, 3, 2)
        for most in (True, False):
            self.assert_told(system, [], [], 4, most, [0] * 5, [(0,) * 5] * 4)
            self.assert_told(system, [], [3, 1], 4, most, [0, 1, 0, 1, 0], [(0,) * 5] * 4)
            self.assert_told(system, [0, 4, 2], [], 4, most, [0] * 5, [(0,) * 5] * 4)
            self.assert_told(system, [0, 4, 2], [4, 3, 2, 1, 0], 4, most, [1] * 5, [(0,) * 5] * 4)

    def test_many_systems(self):
        random = Random(43)
        for states, many, ends in [(2, 3, 2), (4, 3, 3), (6, 4, 2), (9, 6, 6)] * 12:
            system = random_system(random, states, many, ends, 5, random.choice((1, 3, 100)))
            allowed, targets = some_states(random, states), some_states(random, states)[:2]
            for steps in (0, 1, 2, 5, 30):
                self.assert_within(system, allowed, targets, steps)

    def test_great_systems(self):
        system = full_system(Random(44), 20)
        self.assert_within(system, list(range(17)), [0, 18], 30)

    def test_the_policies_have_the_chances(self):
        random = Random(45)
        for states in (3, 5, 8) * 8:
            system = random_system(random, states, 4, 3)
            allowed, targets = some_states(random, states), some_states(random, states)[:2]
            for most in (True, False):
                found, policies = bounded_chances(system, allowed, targets, 6, most)
                values = [Fraction(state in targets) for state in range(states)]
                for policy in policies:
                    values = [mean_over(system, state, policy[state], values)
                              if state in allowed and state not in targets else values[state]
                              for state in range(states)]
                self.assertEqual([pair(value) for value in values], found)

    def test_more_steps_come_near_the_chances_without_a_bound(self):
        random = Random(46)
        for _ in range(20):
            system = random_system(random, 4, 3, 3, 5, 2)
            for most in (True, False):
                values = best_chances(system, [0, 1, 2], [3], most)[0]
                found, _ = bounded_chances(system, [0, 1, 2], [3], 200, most)
                for value, here in zip(values, found):
                    self.assertLessEqual(Fraction(*here), Fraction(*value))
                    self.assertAlmostEqual(float(Fraction(*here)), float(Fraction(*value)), delta=0.01)

    def test_arguments_are_as_before_and_lists_are_new(self):
        system, allowed, targets = ((go(1), go(0, 2)), (go(1),), (go(0),)), [2, 0], [1]
        before = deepcopy((system, allowed, targets))
        for steps, most in product((0, 3), (True, False)):
            values, policies = bounded_chances(system, allowed, targets, steps, most)
            kept = (list(values), list(policies))
            values.clear()
            policies.append(None)
            self.assertEqual(bounded_chances(system, allowed, targets, steps, most), kept)
        self.assertEqual((system, allowed, targets), before)


if __name__ == "__main__":
    unittest.main()
