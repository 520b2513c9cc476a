"""Best costs until targets and their judge (points 20 to 23), held against all policies."""

import unittest
from copy import deepcopy
from fractions import Fraction
from itertools import product
from math import gcd
from random import Random

from bestodds import costs
from bestodds.chains import policy_costs
from bestodds.costs import best_costs, judge_costs
from bestodds.sure import attainable, certain
from search import (accepts_costs, best_costs_over_policies, full_system, pair, random_system, some_states,
                    subsets, sure_sets)


def go(*ends, cost=0):
    """A choice that goes to each of these ends with the same chance."""
    return (cost, tuple((end, 1) for end in ends))


def finite_states(system, targets, most):
    """The states whose cost is finite by point 21, over all policies."""
    return sure_sets(system, range(len(system)), targets)["certain" if most else "attainable"]


class BestTest(unittest.TestCase):

    def assert_best(self, system, targets, most, expected):
        """The costs are the expected ones, the policy has them, and the certificate is accepted."""
        certificate = best_costs(system, targets, most)
        found, policy, _ = certificate
        self.assertEqual(list(found), [pair(value if value is None else Fraction(value)) for value in expected])
        held = policy_costs(system, policy, targets)
        for cost, here in zip(found, held):
            if cost is not None:
                self.assertEqual(here, cost)
        self.assertIs(judge_costs(system, targets, most, certificate), True)
        finite = finite_states(system, targets, most)
        self.assertEqual([state for state, cost in enumerate(found) if cost is not None], finite)
        self.assertTrue(accepts_costs(system, targets, most, finite, certificate))

    def assert_both(self, system, targets):
        """Both best costs are the best ones over all policies."""
        for most, expected in best_costs_over_policies(system, targets).items():
            with self.subTest(system=system, targets=targets, most=most):
                self.assert_best(system, targets, most, expected)

    def test_everything_is_defined_in_the_file(self):
        for name in ("best_costs", "judge_costs"):
            self.assertEqual(getattr(costs, name).__module__, "bestodds.costs")

    def test_kinds_of_values(self):
        system = random_system(Random(30), 8, 3, 3)
        for most, targets in product((True, False), ([], [3], [7, 2, 0])):
            certificate = best_costs(system, targets, most)
            self.assertIs(type(certificate), tuple)
            self.assertEqual([type(part) for part in certificate], [tuple] * 3)
            self.assertEqual([len(part) for part in certificate], [8] * 3)
            for value in certificate[0]:
                if value is not None:
                    self.assertEqual([type(value), *[type(part) for part in value]], [tuple, int, int])
                    self.assertEqual(gcd(*value), 1)
                    self.assertGreaterEqual(value[1], 1)
            for number in certificate[1] + certificate[2]:
                self.assertIs(type(number), int)
                self.assertGreaterEqual(number, 0)

    def test_the_least_and_the_greatest_cost(self):
        system = ((go(1, cost=9), go(2, cost=4), go(0, 1, cost=3)), (go(1, cost=8),), (go(1, cost=1),))
        self.assert_best(system, [1], False, [5, 0, 1])
        self.assert_best(system, [1], True, [9, 0, 1])

    def test_fractions(self):
        system = (((5, ((0, 1), (1, 2))), (7, ((0, 2), (1, 5)))), (go(1),))
        self.assert_best(system, [1], False, [Fraction(15, 2), 0])
        self.assert_best(system, [1], True, [Fraction(49, 5), 0])

    def test_circles_that_cost_nothing(self):
        # Waiting costs nothing, but does not come to the target.
        system = ((go(0), go(1, cost=5)), (go(1),))
        self.assert_best(system, [1], False, [5, 0])
        self.assert_best(system, [1], True, [None, 0])
        system = ((go(1, cost=5), go(0)), (go(1),))
        self.assert_best(system, [1], False, [5, 0])
        # Going round in a ring costs nothing; each state has its own price of leaving.
        ring = tuple((go((state + 1) % 6), go(6, cost=10 + 3 * state)) for state in range(6))
        self.assert_best((*ring, (go(6),)), [6], False, [10] * 6 + [0])
        self.assert_best((*ring, (go(6),)), [6], True, [None] * 6 + [0])

    def test_everything_costs_nothing(self):
        system = ((go(1), go(0), go(2)), (go(0), go(2)), (go(2),), (go(3),))
        self.assert_best(system, [2], False, [0, 0, 0, None])
        self.assert_best(system, [2], True, [None, None, 0, None])

    def test_a_cheap_choice_that_may_come_to_a_trap(self):
        system = ((go(1, 2, cost=1), go(1, cost=900)), (go(1),), (go(2),))
        self.assert_best(system, [1], False, [900, 0, None])
        self.assert_best(system, [1], True, [None, 0, None])

    def test_finite_costs_of_one_policy_where_another_one_never_arrives(self):
        system = ((go(0, cost=1), go(1, cost=2)), (go(1),), (go(0, cost=3), go(1, cost=3)))
        self.assert_best(system, [1], False, [2, 0, 3])
        self.assert_best(system, [1], True, [None, 0, None])

    def test_targets_cost_nothing(self):
        self.assert_best(((go(0, cost=1000),),), [0], True, [0])
        for most in (True, False):
            self.assert_best(((go(1, cost=1000),), (go(0, cost=1000),)), [1, 0], most, [0, 0])

    def test_no_target_and_all_targets(self):
        system = random_system(Random(31), 6, 3, 3)
        for most in (True, False):
            self.assert_best(system, [], most, [None] * 6)
            self.assert_best(system, [4, 2, 0, 1, 3, 5], most, [0] * 6)

    def test_the_dear_way_is_found_late(self):
        system = tuple((go(6, cost=1), go(state + 1, cost=2)) for state in range(6)) + ((go(6),),)
        self.assert_best(system, [6], True, [12, 10, 8, 6, 4, 2, 0])
        self.assert_best(system, [6], False, [1] * 5 + [1, 0])

    def test_all_small_systems(self):
        supports = [go(0, cost=0), go(1, cost=1), (0, ((0, 1), (1, 2)))]
        choices = [tuple(supports[at] for at in chosen) for chosen in subsets(3) if chosen]
        for system in product(choices, repeat=2):
            for targets in subsets(2):
                self.assert_both(system, targets)

    def test_many_small_systems(self):
        random = Random(32)
        for states, many, ends in [(3, 3, 2), (4, 2, 2), (4, 3, 2), (5, 2, 3), (6, 2, 2), (5, 3, 1)] * 15:
            system = random_system(random, states, many, ends, random.choice((1, 2, 6)), 3)
            self.assert_both(system, some_states(random, states)[:2])

    def test_costs_of_0_and_1_and_many_circles(self):
        random = Random(33)
        for states, many in [(4, 3), (5, 3), (6, 2)] * 15:
            system = random_system(random, states, many, 1, 1, 1)
            self.assert_both(system, random.sample(range(states), 1))

    def test_arguments_are_as_before(self):
        system, targets = ((go(1, cost=2), go(0, 2)), (go(1),), (go(0),)), [2, 1]
        before = deepcopy((system, targets))
        for most in (True, False):
            best_costs(system, targets, most)
        self.assertEqual((system, targets), before)


class GreatTest(unittest.TestCase):
    """Systems that are too great for a search: the certificates are accepted."""

    def assert_accepted(self, system, targets):
        everywhere = list(range(len(system)))
        for most, ask in ((True, certain), (False, attainable)):
            certificate = best_costs(system, targets, most)
            finite = ask(system, everywhere, targets)
            self.assertIs(judge_costs(system, targets, most, certificate), True)
            self.assertTrue(accepts_costs(system, targets, most, finite, certificate))
            held = policy_costs(system, certificate[1], targets)
            for state in everywhere:
                self.assertEqual(certificate[0][state], held[state] if state in finite else None)

    def test_systems_of_5_to_20_states(self):
        random = Random(34)
        for states in range(5, 21):
            for many, ends, cost, weight in ((6, 6, 1000, 1000), (6, 2, 1, 3), (3, 3, 0, 10), (6, 1, 2, 1)):
                system = random_system(random, states, many, ends, cost, weight)
                self.assert_accepted(system, random.sample(range(states), 1))
                self.assert_accepted(system, some_states(random, states)[:4])

    def test_great_systems(self):
        random = Random(35)
        for _ in range(4):
            system = full_system(random, 20)
            self.assert_accepted(system, [0])
            self.assert_accepted(full_system(random, 20, 1), [3, 19])

    def test_a_walk_with_circles_that_cost_nothing(self):
        system = ((go(0),), *[(go(state), go(state - 1, state + 1, cost=1), go(min(state + 3, 19)))
                              for state in range(1, 19)], (go(19), go(0, 18, cost=7)))
        self.assert_accepted(system, [0])
        self.assert_accepted(system, [19, 0])

    def test_a_walk_without_circles(self):
        system = ((go(0),), *[((2, ((state - 1, 2), (state + 1, 1))), (3, ((state - 1, 1), (state + 1, 1))),
                               (1, ((state - 1, 1), (state, 1)))) for state in range(1, 19)], (go(18, cost=5),))
        self.assert_accepted(system, [0])
        self.assert_accepted(system, [0, 19])
        self.assertNotIn(None, best_costs(system, [0], True)[0])


NOTHING, TWO, THREE = (0, 1), (2, 1), (3, 1)


class JudgeTest(unittest.TestCase):

    def judged(self, accepted, system, targets, most, certificate):
        with self.subTest(most=most, certificate=certificate):
            self.assertIs(judge_costs(system, targets, most, certificate), accepted)
            finite = finite_states(system, targets, most)
            self.assertEqual(accepts_costs(system, targets, most, finite, certificate), accepted)


class FormTest(JudgeTest):
    """What holds for the least and the greatest costs: from 0 by 1 to the target 2; 3 is a trap."""

    system = ((go(1, cost=1), go(1, cost=1)), (go(2, cost=2),), (go(0, cost=4), go(2)), (go(3), go(3)))

    def both(self, accepted, costs=(THREE, TWO, NOTHING, None), policy=(0, 0, 0, 0), ranks=(2, 1, 0, 0)):
        for most in (True, False):
            self.judged(accepted, self.system, [2], most, (costs, policy, ranks))

    def test_accepted(self):
        self.both(True)
        for policy in product(range(2), range(1), range(2), range(2)):
            self.both(True, policy=policy)

    def test_ranks(self):
        for ranks in ((1, 0, 5, 0), (9, 8, 7, 10 ** 30), (10 ** 30, 0, 0, 0), (2, 1, 9, 9)):
            self.both(True, ranks=ranks)
        for ranks in ((1, 1, 0, 0), (0, 1, 0, 0), (0, 0, 0, 0), (0, 5, 0, 0)):
            self.both(False, ranks=ranks)

    def test_ranks_below_0(self):
        for ranks in ((2, -1, 0, 0), (-1, -2, 0, 0), (2, 1, -1, 0), (2, 1, 0, -1), (2, 1, 0, -10 ** 30)):
            self.both(False, ranks=ranks)

    def test_a_cost_other_than_0_in_a_target(self):
        self.both(False, costs=(THREE, TWO, (1, 1), None))
        self.both(False, costs=((4, 1), THREE, (1, 1), None))
        self.both(False, costs=(TWO, (1, 1), (-1, 1), None))
        self.both(False, costs=(THREE, TWO, None, None))
        self.both(False, costs=(None, None, None, None))

    def test_none_in_the_wrong_place(self):
        self.both(False, costs=(None, TWO, NOTHING, None))
        self.both(False, costs=(THREE, None, NOTHING, None))
        self.both(False, costs=(None, None, NOTHING, None))

    def test_a_fraction_where_none_is_due(self):
        for cost in (NOTHING, (1, 1), (1000, 1), (-1, 2)):
            self.both(False, costs=(THREE, TWO, NOTHING, cost))

    def test_a_cost_that_is_changed(self):
        for cost in (NOTHING, TWO, (4, 1), (5, 2), (-3, 1), (2999, 1000), (3001, 1000)):
            self.both(False, costs=(cost, TWO, NOTHING, None))
        for cost in (NOTHING, THREE, (3, 2), (-2, 1)):
            self.both(False, costs=(THREE, cost, NOTHING, None))
            self.both(False, costs=((cost[0] + cost[1], cost[1]), cost, NOTHING, None))

    def test_choices_that_do_not_exist(self):
        for policy in ((2, 0, 0, 0), (-1, 0, 0, 0), (0, 1, 0, 0), (0, -1, 0, 0), (0, 0, 2, 0), (0, 0, -1, 0),
                       (0, 0, 0, 2), (0, 0, 0, -1), (0, 0, 0, 10 ** 30)):
            self.both(False, policy=policy)

    def test_a_member_too_few_or_too_many(self):
        good = {"costs": (THREE, TWO, NOTHING, None), "policy": (0,) * 4, "ranks": (2, 1, 0, 0)}
        for name, extra in (("costs", NOTHING), ("costs", None), ("policy", 0), ("ranks", 0)):
            for length in range(4):
                self.both(False, **{name: good[name][:length]})
            for length in (1, 2, 30):
                self.both(False, **{name: good[name] + (extra,) * length})
        self.both(False, costs=(), policy=(), ranks=())
        self.both(False, costs=good["costs"] + (None,), policy=(0,) * 5, ranks=(2, 1, 0, 0, 0))
        self.both(False, costs=good["costs"][:3], policy=(0,) * 3, ranks=(2, 1, 0))


    def test_pairs_that_are_no_fractions(self):
        for costs in (((6, 2), TWO, NOTHING, None), (THREE, (4, 2), NOTHING, None), (THREE, TWO, (0, 2), None),
                      ((-3, -1), TWO, NOTHING, None), (THREE, (2, 0), NOTHING, None), (THREE, TWO, (0, 0), None)):
            for most in (True, False):
                self.assertIs(judge_costs(self.system, [2], most, (costs, (0,) * 4, (2, 1, 0, 0))), False)


class ConditionsTest(JudgeTest):

    def test_an_end_of_the_choice_of_the_policy_with_none(self):
        system = ((go(1, cost=5), go(1, 2, cost=1), go(2)), (go(1),), (go(2),))
        self.judged(True, system, [1], False, (((5, 1), NOTHING, None), (0, 0, 0), (1, 0, 0)))
        for cost in ((5, 1), (1, 1), NOTHING):
            for number in (1, 2):
                self.judged(False, system, [1], False, ((cost, NOTHING, None), (number, 0, 0), (1, 0, 0)))
        self.judged(False, system, [1], True, (((5, 1), NOTHING, None), (0, 0, 0), (1, 0, 0)))
        self.judged(True, system, [1], True, ((None, NOTHING, None), (1, 0, 0), (0, 0, 0)))

    def test_a_choice_that_is_better(self):
        system = ((go(1, cost=3), go(1, cost=2)), (go(1),))
        self.judged(True, system, [1], True, ((THREE, NOTHING), (0, 0), (1, 0)))
        self.judged(False, system, [1], False, ((THREE, NOTHING), (0, 0), (1, 0)))
        self.judged(True, system, [1], False, ((TWO, NOTHING), (1, 0), (1, 0)))
        self.judged(False, system, [1], True, ((TWO, NOTHING), (1, 0), (1, 0)))

    def test_a_choice_of_the_policy_that_does_not_have_the_cost(self):
        system = ((go(1, cost=3), go(1, cost=2)), (go(1),))
        self.judged(False, system, [1], True, ((THREE, NOTHING), (1, 0), (1, 0)))
        self.judged(False, system, [1], False, ((TWO, NOTHING), (0, 0), (1, 0)))

    def test_a_policy_that_goes_round(self):
        # Any cost up to 5 fits a policy that waits; no ranks do.
        system = ((go(0), go(1, cost=5)), (go(1),))
        for ranks in ((0, 0), (1, 0), (9, 1), (0, 9)):
            for cost in (NOTHING, TWO, (5, 1)):
                self.judged(False, system, [1], False, ((cost, NOTHING), (0, 0), ranks))
        # Beside a target no lower rank is asked for.
        for ranks in ((0, 0), (1, 0), (3, 9)):
            self.judged(True, system, [1], False, (((5, 1), NOTHING), (1, 0), ranks))
            self.judged(False, system, [1], False, ((TWO, NOTHING), (1, 0), ranks))

    def test_a_circle_of_two_states(self):
        system = ((go(1), go(2, cost=5)), (go(0), go(2, cost=7)), (go(2),))
        self.judged(True, system, [2], False, (((5, 1), (5, 1), NOTHING), (1, 0, 0), (1, 2, 0)))
        self.judged(False, system, [2], False, (((5, 1), (5, 1), NOTHING), (1, 0, 0), (1, 1, 0)))
        self.judged(False, system, [2], False, (((5, 1), (5, 1), NOTHING), (0, 0, 0), (1, 2, 0)))
        self.judged(False, system, [2], False, ((THREE, THREE, NOTHING), (0, 0, 0), (1, 2, 0)))
        self.judged(False, system, [2], False, (((7, 1), (7, 1), NOTHING), (0, 1, 0), (2, 1, 0)))

    def test_one_end_of_several_has_a_lower_rank(self):
        system = ((go(0, 1, cost=1),), (go(0, 2, cost=1),), (go(2),))
        for most in (True, False):
            self.judged(True, system, [2], most, (((6, 1), (4, 1), NOTHING), (0,) * 3, (2, 1, 0)))
            self.judged(True, system, [2], most, (((6, 1), (4, 1), NOTHING), (0,) * 3, (1, 0, 3)))
            self.judged(False, system, [2], most, (((6, 1), (4, 1), NOTHING), (0,) * 3, (1, 1, 0)))
            self.judged(False, system, [2], most, (((6, 1), (4, 1), NOTHING), (0,) * 3, (1, 2, 0)))


class ChangedTest(unittest.TestCase):
    """Certificates that are changed a little, held against the words of the document."""

    def changed(self, random, certificate):
        parts = [list(part) for part in certificate]
        at = random.randrange(len(parts[0]))
        what = random.randrange(7)
        if what == 0:
            parts[0][at] = random.choice([None, NOTHING, (1, 1), (1, 2), (-1, 2), THREE, parts[0][at - 1]])
        elif what in (1, 2):
            parts[1][at] = random.randint(-1, 3)
        elif what in (3, 4):
            parts[2][at] = random.randint(-1, 3)
        elif what == 5:
            random.shuffle(parts[2])
        else:
            part = random.choice(parts)
            part[at:] = part[at:][:random.randint(0, 2)] * random.randint(1, 2)
        return tuple(tuple(part) for part in parts)

    def test_changed_certificates(self):
        random = Random(36)
        answers = {True: 0, False: 0}
        for states, choices, ends in [(2, 2, 2), (3, 3, 2), (4, 2, 2), (5, 3, 1)] * 40:
            system = random_system(random, states, choices, ends, 2, 3)
            targets = some_states(random, states)[:2]
            for most in (True, False):
                finite = finite_states(system, targets, most)
                certificate = best_costs(system, targets, most)
                for _ in range(12):
                    changed = self.changed(random, certificate)
                    expected = accepts_costs(system, targets, most, finite, changed)
                    with self.subTest(system=system, targets=targets, changed=changed):
                        self.assertIs(judge_costs(system, targets, most, changed), expected)
                    if expected:
                        answers[True] += changed != certificate
                        self.assertEqual(changed[0], certificate[0])
                    answers[False] += not expected
        self.assertGreater(min(answers.values()), 400)

    def test_arguments_are_as_before(self):
        system, targets = ((go(1, cost=2), go(0, 2)), (go(1),), (go(0),)), [1]
        for most in (True, False):
            certificate = best_costs(system, targets, most)
            before = deepcopy((system, targets, certificate))
            judge_costs(system, targets, most, certificate)
            self.assertEqual((system, targets, certificate), before)


if __name__ == "__main__":
    unittest.main()
