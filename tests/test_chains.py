"""The chances and costs of a policy (points 4, 12 and 13)."""

import unittest
from copy import deepcopy
from fractions import Fraction
from math import gcd
from random import Random

from bestodds import chains
from bestodds.chains import policy_averages, policy_chances, policy_costs
from search import (chain_averages, chain_chances, chain_costs, full_system, pair, random_system,
                    some_states)


def go(*ends, cost=0):
    """A choice that goes to each of these ends with the same chance."""
    return (cost, tuple((end, 1) for end in ends))


def walk(many, down, up, cost=1):
    """A walk on a line, one step down or up with these weights, with states that stay at both ends."""
    inner = [((cost, ((state - 1, down), (state + 1, up))),) for state in range(1, many - 1)]
    return ((go(0),), *inner, (go(many - 1),))


def random_policy(random, system):
    return tuple(random.randrange(len(choices)) for choices in system)


class KindsTest(unittest.TestCase):

    def test_everything_is_defined_in_the_file(self):
        for name in ("policy_chances", "policy_costs", "policy_averages"):
            self.assertEqual(getattr(chains, name).__module__, "bestodds.chains")

    def test_kinds_of_values(self):
        system = random_system(Random(11), 8, 3, 3)
        policy = (0,) * 8
        for found in (policy_chances(system, policy, [0, 1, 2, 3], [4]),
                      policy_costs(system, policy, [0, 1, 2]), policy_averages(system, policy)):
            self.assertIs(type(found), list)
            self.assertEqual(len(found), 8)
            for value in found:
                if value is not None:
                    self.assertIs(type(value), tuple)
                    self.assertEqual([type(part) for part in value], [int, int])
                    self.assertGreaterEqual(value[1], 1)
                    self.assertEqual(gcd(*value), 1)

    def test_arguments_are_as_before_and_lists_are_new(self):
        system, policy = walk(5, 1, 2), (0,) * 5
        allowed, targets = [3, 1, 2], [4]
        before = deepcopy((system, allowed, targets))
        for ask in (lambda: policy_chances(system, policy, allowed, targets),
                    lambda: policy_costs(system, policy, targets),
                    lambda: policy_averages(system, policy)):
            first = ask()
            kept = list(first)
            first.clear()
            self.assertEqual(ask(), kept)
        self.assertEqual((system, allowed, targets), before)


class ChancesTest(unittest.TestCase):

    def assert_chances(self, system, policy, allowed, targets, expected):
        self.assertEqual(policy_chances(system, policy, allowed, targets),
                         [pair(Fraction(value)) for value in expected])

    def test_the_choices_of_the_policy_are_made(self):
        system = ((go(1), go(2), go(1, 2)), (go(1),), (go(2),))
        self.assert_chances(system, (0, 0, 0), [0], [1], [1, 1, 0])
        self.assert_chances(system, (1, 0, 0), [0], [1], [0, 1, 0])
        self.assert_chances(system, (2, 0, 0), [0], [1], [Fraction(1, 2), 1, 0])

    def test_a_walk(self):
        everywhere = list(range(20))
        self.assert_chances(walk(20, 1, 1), (0,) * 20, everywhere, [19],
                            [Fraction(state, 19) for state in range(20)])
        chances = [Fraction(2 ** state - 1, 2 ** 19 - 1) * 2 ** (19 - state) for state in range(20)]
        self.assert_chances(walk(20, 1, 2), (0,) * 20, everywhere, [19], chances)
        self.assert_chances(walk(20, 1, 2), (0,) * 20, everywhere, [0], [1 - chance for chance in chances])

    def test_targets_need_not_be_allowed(self):
        for allowed in ([1, 2], [0, 1, 2, 3], [2, 1, 3], [2, 1, 0]):
            self.assert_chances(walk(4, 1, 1), (0,) * 4, allowed, [3],
                                [0, Fraction(1, 3), Fraction(2, 3), 1])

    def test_a_target_in_the_middle(self):
        for allowed in ([0, 1, 2, 3, 4], [0, 1, 3, 4]):
            self.assert_chances(walk(5, 1, 1), (0,) * 5, allowed, [2],
                                [0, Fraction(1, 2), 1, Fraction(1, 2), 0])

    def test_states_that_are_neither(self):
        self.assert_chances(walk(5, 1, 1), (0,) * 5, [0, 1, 3, 4], [4], [0, 0, 0, Fraction(1, 2), 1])
        self.assert_chances(walk(5, 1, 1), (0,) * 5, [], [4], [0, 0, 0, 0, 1])
        self.assert_chances(((go(1),), (go(2),), (go(2),)), (0, 0, 0), [0], [2], [0, 0, 1])

    def test_no_target_and_all_targets(self):
        self.assert_chances(walk(4, 1, 1), (0,) * 4, [0, 1, 2, 3], [], [0] * 4)
        self.assert_chances(walk(4, 1, 1), (0,) * 4, [], [2, 0, 3, 1], [1] * 4)

    def test_chains_that_never_reach_a_target(self):
        system = ((go(1),), (go(0),), (go(0, 3),), (go(3),))
        self.assert_chances(system, (0,) * 4, [0, 1, 2, 3], [3], [0, 0, Fraction(1, 2), 1])

    def test_choices_that_lead_back(self):
        system = (((0, ((0, 5), (1, 2), (2, 3))),), (go(1),), (go(2),))
        self.assert_chances(system, (0, 0, 0), [0], [1], [Fraction(2, 5), 1, 0])

    def test_against_another_reckoning(self):
        random = Random(12)
        for states in [2, 3, 4, 5, 6, 8] * 20 + [20] * 4:
            system = random_system(random, states, 3, 3)
            policy = random_policy(random, system)
            allowed, targets = some_states(random, states), some_states(random, states)[:3]
            self.assert_chances(system, policy, allowed, targets,
                                chain_chances(system, policy, allowed, targets))

    def test_great_systems(self):
        random = Random(13)
        for _ in range(3):
            system = full_system(random, 20)
            policy = random_policy(random, system)
            self.assert_chances(system, policy, list(range(15)), [19, 3],
                                chain_chances(system, policy, range(15), [19, 3]))


class CostsTest(unittest.TestCase):

    def assert_costs(self, system, policy, targets, expected):
        self.assertEqual(policy_costs(system, policy, targets),
                         [value if value is None else pair(Fraction(value)) for value in expected])

    def test_the_choices_of_the_policy_are_made(self):
        system = ((go(1, cost=4), go(0, 1, cost=3), go(2, cost=1)), (go(1, cost=9),), (go(2),))
        self.assert_costs(system, (0, 0, 0), [1], [4, 0, None])
        self.assert_costs(system, (1, 0, 0), [1], [6, 0, None])
        self.assert_costs(system, (2, 0, 0), [1], [None, 0, None])

    def test_a_walk(self):
        self.assert_costs(walk(20, 1, 1), (0,) * 20, [0, 19],
                          [state * (19 - state) for state in range(20)])
        self.assert_costs(walk(20, 1, 1, 7), (0,) * 20, [19, 0],
                          [7 * state * (19 - state) for state in range(20)])

    def test_none_just_where_a_target_is_not_reached_with_the_chance_1(self):
        self.assert_costs(walk(5, 1, 1), (0,) * 5, [4], [None] * 4 + [0])
        self.assert_costs(walk(5, 1, 1), (0,) * 5, [2, 4], [None, None, 0, 1, 0])
        system = ((go(1, cost=2),), (go(0, 2, cost=5),), (go(3),), (go(2, 3),), (go(0, 3),))
        self.assert_costs(system, (0,) * 5, [2], [14, 12, 0, 0, 7])

    def test_a_cost_of_0_in_targets(self):
        self.assert_costs(((go(0, cost=1000),),), (0,), [0], [0])
        self.assert_costs(((go(1, cost=1000),), (go(0, cost=1000),)), (0, 0), [1, 0], [0, 0])

    def test_no_target(self):
        self.assert_costs(walk(4, 1, 1), (0,) * 4, [], [None] * 4)

    def test_choices_that_cost_nothing(self):
        self.assert_costs(walk(4, 1, 1, 0), (0,) * 4, [0, 3], [0] * 4)
        self.assert_costs(((go(0),), (go(1),)), (0, 0), [1], [None, 0])

    def test_fractions(self):
        system = (((5, ((0, 1), (1, 2))),), (go(1),))
        self.assert_costs(system, (0, 0), [1], [Fraction(15, 2), 0])

    def test_against_another_reckoning(self):
        random = Random(14)
        finite = 0
        for states in [2, 3, 4, 5, 6, 8] * 20 + [20] * 4:
            system = random_system(random, states, 3, 3)
            policy = random_policy(random, system)
            targets = some_states(random, states)[:3]
            expected = chain_costs(system, policy, targets)
            finite += len(states_with(expected)) - len(targets)
            self.assert_costs(system, policy, targets, expected)
        self.assertGreater(finite, 100)

    def test_costs_are_finite_just_where_the_chance_is_1(self):
        random = Random(15)
        for states in [4, 7, 20, 20]:
            system = random_system(random, states, 4, 2)
            policy = random_policy(random, system)
            targets = random.sample(range(states), 2)
            chances = policy_chances(system, policy, list(range(states)), targets)
            costs = policy_costs(system, policy, targets)
            self.assertEqual([chance == (1, 1) for chance in chances], [cost is not None for cost in costs])

    def test_great_systems(self):
        random = Random(16)
        for _ in range(3):
            system = full_system(random, 20)
            policy = random_policy(random, system)
            self.assert_costs(system, policy, [5, 0], chain_costs(system, policy, [5, 0]))


class AveragesTest(unittest.TestCase):

    def assert_averages(self, system, policy, expected):
        self.assertEqual(policy_averages(system, policy), [pair(Fraction(value)) for value in expected])

    def test_one_state(self):
        self.assert_averages(((go(0, cost=7),),), (0,), [7])
        self.assert_averages(((go(0, cost=7), go(0, cost=0)),), (1,), [0])

    def test_the_choices_of_the_policy_are_made(self):
        system = ((go(0, cost=3), go(1, cost=5)), (go(1, cost=8), go(0, cost=2)))
        self.assert_averages(system, (0, 0), [3, 8])
        self.assert_averages(system, (1, 0), [8, 8])
        self.assert_averages(system, (0, 1), [3, 3])
        self.assert_averages(system, (1, 1), [Fraction(7, 2)] * 2)

    def test_classes_that_go_round_in_turns(self):
        self.assert_averages(((go(1, cost=1),), (go(0, cost=4),)), (0, 0), [Fraction(5, 2)] * 2)
        self.assert_averages(((go(1, cost=1),), (go(2, cost=4),), (go(0, cost=5),)), (0, 0, 0),
                             [Fraction(10, 3)] * 3)
        self.assert_averages(((go(2, cost=1),), (go(0, cost=4),), (go(1),)), (0, 0, 0), [Fraction(5, 3)] * 3)

    def test_one_class(self):
        # The shares of time are 1/4 and 3/4.
        system = ((go(1, cost=8),), ((2, ((0, 1), (1, 2))),))
        self.assert_averages(system, (0, 0), [Fraction(7, 2)] * 2)
        system = (((6, ((0, 1), (1, 1), (2, 1))),), (go(0, cost=12),), (go(1, cost=1),))
        self.assert_averages(system, (0, 0, 0), [Fraction(3 * 6 + 2 * 12 + 1, 6)] * 3)

    def test_states_on_the_way_to_several_classes(self):
        system = ((go(0, cost=2),), (go(0, 2, cost=900),), (go(1, 3, cost=50),), (go(4, cost=5),),
                  (go(3, cost=6),))
        self.assert_averages(system, (0,) * 5, [
            2, Fraction(2 * 2, 3) + Fraction(11, 6), Fraction(2, 3) + Fraction(11, 3), Fraction(11, 2),
            Fraction(11, 2)])

    def test_several_classes(self):
        system = ((go(3, cost=1),), (go(4, cost=7),), (go(2, cost=9),), (go(0, cost=2),), (go(1, cost=0),),
                  (go(0, 1, 2, cost=1000),))
        self.assert_averages(system, (0,) * 6, [
            Fraction(3, 2), Fraction(7, 2), 9, Fraction(3, 2), Fraction(7, 2), Fraction(14, 3)])

    def test_the_costs_on_the_way_do_not_count(self):
        system = tuple((go(min(state + 1, 19), cost=state * 10),) for state in range(20))
        self.assert_averages(system, (0,) * 20, [190] * 20)

    def test_twenty_states_in_turns(self):
        system = tuple((go((state + 1) % 20, cost=state),) for state in range(20))
        self.assert_averages(system, (0,) * 20, [Fraction(19, 2)] * 20)

    def test_against_another_reckoning(self):
        random = Random(17)
        for states in [2, 3, 4, 5, 6, 8] * 20 + [20] * 4:
            system = random_system(random, states, 3, random.choice((1, 2, 3)))
            policy = random_policy(random, system)
            self.assert_averages(system, policy, chain_averages(system, policy))

    def test_great_systems(self):
        random = Random(18)
        for _ in range(3):
            system = full_system(random, 20)
            policy = random_policy(random, system)
            self.assert_averages(system, policy, chain_averages(system, policy))

    def test_the_limit_of_the_means(self):
        random = Random(19)
        for _ in range(10):
            system = random_system(random, 4, 1, 2)
            found = [Fraction(*value) for value in policy_averages(system, (0,) * 4)]
            many = 4000
            totals = [0.0] * 4
            for _ in range(many):
                totals = [choices[0][0] + sum(weight * totals[end] for end, weight in choices[0][1])
                          / sum(weight for _, weight in choices[0][1]) for choices in system]
            for value, total in zip(found, totals):
                self.assertAlmostEqual(float(value), total / many, delta=0.05)


def states_with(values):
    return [state for state, value in enumerate(values) if value is not None]


if __name__ == "__main__":
    unittest.main()
