"""Best chances (points 14 to 16 and 19), held against a search over all policies."""

import unittest
from copy import deepcopy
from fractions import Fraction
from itertools import product
from math import gcd
from random import Random

from bestodds import chances
from bestodds.chances import best_chances
from bestodds.chains import policy_chances
from bestodds.judging import judge_chances
from bestodds.sure import attainable, avoidable, certain, possible
from search import (accepts_chances, best_over_policies, full_system, mean_over, pair, random_system,
                    some_states, subsets)


def go(*ends):
    """A choice that goes to each of these ends with the same chance."""
    return (0, tuple((end, 1) for end in ends))


class BestTest(unittest.TestCase):

    def assert_best(self, system, allowed, targets, most, expected=None):
        """The certificate is right by points 15, 16 and 19, and has the expected values."""
        certificate = best_chances(system, allowed, targets, most)
        values, policy, _ = certificate
        if expected is not None:
            self.assertEqual(list(values), [pair(Fraction(value)) for value in expected])
        self.assert_fits(system, allowed, targets, most, [Fraction(*value) for value in values])
        self.assertEqual(policy_chances(system, policy, allowed, targets), list(values))
        self.assertIs(judge_chances(system, allowed, targets, most, certificate), True)
        self.assertTrue(accepts_chances(system, allowed, targets, most, certificate))

    def assert_fits(self, system, allowed, targets, most, values):
        """The values fit together as point 15 says."""
        for state, value in enumerate(values):
            means = [mean_over(system, state, number, values) for number in range(len(system[state]))]
            if state in targets:
                self.assertEqual(value, 1)
            elif state not in allowed:
                self.assertEqual(value, 0)
            else:
                self.assertEqual(value, max(means) if most else min(means))

    def assert_both(self, system, allowed, targets):
        """Both best chances are the best ones over all policies."""
        for most in (True, False):
            with self.subTest(system=system, allowed=allowed, targets=targets, most=most):
                self.assert_best(system, allowed, targets, most,
                                 best_over_policies(system, allowed, targets, most))

    def test_everything_is_defined_in_the_file(self):
        self.assertEqual(best_chances.__module__, "bestodds.chances")
        self.assertIs(chances.best_chances, best_chances)

    def test_kinds_of_values(self):
        system = random_system(Random(20), 7, 3, 3)
        for most in (True, False):
            certificate = best_chances(system, [0, 1, 2, 3, 4], [5], most)
            self.assertIs(type(certificate), tuple)
            self.assertEqual([type(part) for part in certificate], [tuple, tuple, tuple])
            self.assertEqual([len(part) for part in certificate], [7, 7, 7])
            for value in certificate[0]:
                self.assertIs(type(value), tuple)
                self.assertEqual([type(part) for part in value], [int, int])
                self.assertEqual(gcd(*value), 1)
            for number in certificate[1] + certificate[2]:
                self.assertIs(type(number), int)
                self.assertGreaterEqual(number, 0)

    def test_the_greatest_and_the_least_mean(self):
        system = ((go(1, 2), go(1, 2, 3), (0, ((1, 3), (2, 1)))), (go(1),), (go(2),), (go(3),))
        self.assert_best(system, [0], [1], True, [Fraction(3, 4), 1, 0, 0])
        self.assert_best(system, [0], [1], False, [Fraction(1, 3), 1, 0, 0])

    def test_ties_among_choices(self):
        system = ((go(1, 2), go(2, 1), go(1, 2)), (go(1),), (go(2),))
        self.assert_best(system, [0], [1], True, [Fraction(1, 2), 1, 0])
        self.assert_best(system, [0], [1], False, [Fraction(1, 2), 1, 0])
        # Of equal means some do not come nearer to the target.
        system = ((go(1), go(0), go(2)), (go(0), go(2)), (go(1), go(0), go(3)), (go(3),))
        self.assert_both(system, [0, 1, 2], [3])
        self.assert_best(system, [0, 1, 2], [3], True, [1, 1, 1, 1])
        self.assert_best(system, [0, 1, 2], [3], False, [0, 0, 0, 1])

    def test_choices_that_lead_back_to_their_own_state(self):
        # Waiting in 0 has the mean of its value, whatever that is.
        system = ((go(0), go(1)), (go(2, 3),), (go(2),), (go(3),))
        self.assert_both(system, [0, 1], [2])
        self.assert_best(system, [0, 1], [2], True, [Fraction(1, 2), Fraction(1, 2), 1, 0])
        self.assert_best(system, [0, 1], [2], False, [0, Fraction(1, 2), 1, 0])
        system = ((go(0, 1), go(0), go(2, 3)), (go(2, 3),), (go(2),), (go(3),))
        self.assert_both(system, [0, 1], [2])
        system = ((go(0, 1, 3), go(0, 1)), (go(1, 2), go(0, 3)), (go(2),), (go(3),))
        self.assert_both(system, [0, 1], [2])

    def test_going_round_in_a_ring(self):
        ring = [(go((state + 1) % 5), go(5, 6), go(5)) for state in range(5)]
        self.assert_best((*ring, (go(5),), (go(6),)), [0, 1, 2, 3, 4], [5], True, [1] * 6 + [0])
        self.assert_best((*ring, (go(5),), (go(6),)), [0, 1, 2, 3, 4], [5], False, [0] * 5 + [1, 0])

    def test_the_least_chance_where_no_choice_can_wait(self):
        system = ((go(0, 2), go(1)), (go(0, 2, 3), go(0)), (go(2),), (go(3),))
        self.assert_both(system, [0, 1], [2])
        self.assert_best(system, [0, 1], [3], False, [0, 0, 0, 1])

    def test_no_target(self):
        system = random_system(Random(21), 6, 3, 3)
        for allowed, most in product(([], [0, 2, 4], list(range(6))), (True, False)):
            self.assert_best(system, allowed, [], most, [0] * 6)

    def test_all_states_targets(self):
        system = random_system(Random(22), 6, 3, 3)
        for allowed, most in product(([], [0, 2, 4], list(range(6))), (True, False)):
            self.assert_best(system, allowed, [3, 1, 2, 5, 4, 0], most, [1] * 6)

    def test_targets_that_are_not_allowed(self):
        system = ((go(1, 2), go(1)), (go(3), go(2)), (go(2),), (go(3),))
        for allowed in ([0, 1], [1, 0, 3], [0, 1, 2, 3]):
            self.assert_best(system, allowed, [3], True, [1, 1, 0, 1])
            self.assert_best(system, allowed, [3], False, [0, 0, 0, 1])

    def test_states_that_are_neither(self):
        system = ((go(1),), (go(2),), (go(2),))
        for most in (True, False):
            self.assert_best(system, [0], [2], most, [0, 0, 1])
            self.assert_best(system, [1], [2], most, [0, 1, 1])

    def test_one_state(self):
        for most, allowed in product((True, False), ([], [0])):
            self.assert_best(((go(0),) * 6,), allowed, [0], most, [1])
            self.assert_best(((go(0),) * 6,), allowed, [], most, [0])

    def test_all_small_systems(self):
        supports = [go(0), go(1), (0, ((0, 1), (1, 2)))]
        choices = [tuple(supports[at] for at in chosen) for chosen in subsets(3) if chosen]
        for system in product(choices, repeat=2):
            for allowed, targets in product(subsets(2), repeat=2):
                self.assert_both(system, allowed, targets)

    def test_many_small_systems(self):
        random = Random(23)
        for states, many, ends in [(3, 3, 2), (4, 2, 2), (4, 3, 2), (5, 2, 3), (6, 2, 2)] * 30:
            system = random_system(random, states, many, ends, 5, 3)
            self.assert_both(system, some_states(random, states), some_states(random, states)[:2])

    def test_everything_allowed_and_few_targets(self):
        random = Random(24)
        for states, many, ends in [(4, 3, 2), (5, 2, 3), (6, 2, 2)] * 30:
            system = random_system(random, states, many, ends, 5, 2)
            self.assert_both(system, list(range(states)), random.sample(range(states), 1))


class CertificateTest(unittest.TestCase):
    """Systems that are too great for a search: the certificates are accepted."""

    def assert_accepted(self, system, allowed, targets):
        values = {}
        for most in (True, False):
            certificate = best_chances(system, allowed, targets, most)
            self.assertIs(judge_chances(system, allowed, targets, most, certificate), True)
            self.assertTrue(accepts_chances(system, allowed, targets, most, certificate))
            self.assertEqual(policy_chances(system, certificate[1], allowed, targets), list(certificate[0]))
            values[most] = certificate[0]
        self.assert_sure(system, allowed, targets, values[True], values[False])

    def assert_sure(self, system, allowed, targets, greatest, least):
        """The values are 0 and 1 just where point 9 says so."""
        where = [(possible, greatest, lambda value: value != (0, 1)),
                 (avoidable, least, lambda value: value == (0, 1)),
                 (attainable, greatest, lambda value: value == (1, 1)),
                 (certain, least, lambda value: value == (1, 1))]
        for ask, values, holds in where:
            self.assertEqual(ask(system, allowed, targets),
                             [state for state, value in enumerate(values) if holds(value)])

    def test_systems_of_5_to_20_states(self):
        random = Random(25)
        for states in range(5, 21):
            for many, ends, weight in ((6, 6, 1000), (6, 2, 3), (3, 3, 10), (2, 1, 1)):
                system = random_system(random, states, many, ends, 1000, weight)
                allowed = [state for state in range(states) if random.random() < 0.9]
                self.assert_accepted(system, allowed, random.sample(range(states), 2))
                self.assert_accepted(system, list(range(states)), some_states(random, states)[:3])

    def test_great_systems(self):
        random = Random(26)
        for _ in range(6):
            system = full_system(random, 20)
            self.assert_accepted(system, list(range(2, 20)), [0])
            self.assert_accepted(system, list(range(8, 20)), [0, 3])

    def test_a_walk_with_a_choice_of_steps(self):
        # The bold step of each state goes further, and back to the beginning if it fails.
        system = ((go(0),), *[((1, ((state - 1, 1), (state + 1, 1))), (1, ((0, 2), (min(state + 4, 19), 3))))
                              for state in range(1, 19)], (go(19),))
        self.assert_accepted(system, list(range(20)), [19])
        self.assert_accepted(system, list(range(20)), [0])

    def test_arguments_are_as_before(self):
        system, allowed, targets = ((go(1), go(0, 2)), (go(1),), (go(0),)), [2, 0], [1]
        before = deepcopy((system, allowed, targets))
        for most in (True, False):
            best_chances(system, allowed, targets, most)
        self.assertEqual((system, allowed, targets), before)


if __name__ == "__main__":
    unittest.main()
