"""Best costs in the long run and their judge (points 25 to 28), held against all policies."""

import unittest
from copy import deepcopy
from fractions import Fraction
from itertools import product
from math import gcd
from random import Random

from bestodds import averages
from bestodds.averages import best_averages, judge_averages
from bestodds.chains import policy_averages
from search import (accepts_averages, best_averages_over_policies, full_system, pair, random_choice,
                    random_system, subsets)


def go(*ends, cost=0):
    """A choice that goes to each of these ends with the same chance."""
    return (cost, tuple((end, 1) for end in ends))


class BestTest(unittest.TestCase):

    def assert_accepted(self, system, most):
        certificate = best_averages(system, most)
        gains, _, policy = certificate
        self.assertEqual(policy_averages(system, policy), list(gains))
        self.assertIs(judge_averages(system, most, certificate), True)
        self.assertTrue(accepts_averages(system, most, certificate))
        return gains

    def assert_best(self, system, most, expected):
        gains = self.assert_accepted(system, most)
        self.assertEqual(list(gains), [pair(Fraction(gain)) for gain in expected])

    def assert_both(self, system):
        """Both best costs are the best ones over all policies."""
        for most, expected in best_averages_over_policies(system).items():
            with self.subTest(system=system, most=most):
                self.assert_best(system, most, expected)

    def test_everything_is_defined_in_the_file(self):
        for name in ("best_averages", "judge_averages"):
            self.assertEqual(getattr(averages, name).__module__, "bestodds.averages")

    def test_kinds_of_values(self):
        system = random_system(Random(50), 8, 3, 3)
        for most in (True, False):
            certificate = best_averages(system, most)
            self.assertIs(type(certificate), tuple)
            self.assertEqual([type(part) for part in certificate], [tuple] * 3)
            self.assertEqual([len(part) for part in certificate], [8] * 3)
            for value in certificate[0] + certificate[1]:
                self.assertEqual([type(value), *[type(part) for part in value]], [tuple, int, int])
                self.assertEqual(gcd(*value), 1)
                self.assertGreaterEqual(value[1], 1)
            for number in certificate[2]:
                self.assertIs(type(number), int)

    def test_one_state(self):
        system = ((go(0, cost=4), go(0, cost=9), go(0, cost=2), go(0, cost=9)),)
        self.assert_best(system, True, [9])
        self.assert_best(system, False, [2])

    def test_one_closed_part(self):
        system = ((go(0, cost=3), go(1, cost=5)), (go(1, cost=8), go(0, cost=2)))
        self.assert_best(system, True, [8, 8])
        self.assert_best(system, False, [3, 3])

    def test_turns(self):
        self.assert_both(((go(1, cost=1), go(1, cost=2)), (go(0, cost=4), go(0, cost=3))))
        self.assert_best(((go(1, cost=1), go(2, cost=6)), (go(0, cost=4),), (go(0),)), True, [3, 3, 3])
        self.assert_best(((go(1, cost=1), go(2, cost=6)), (go(0, cost=4),), (go(0),)), False,
                         [Fraction(5, 2)] * 3)
        system = tuple((go((state + 1) % 20, cost=state), go(state, cost=9)) for state in range(20))
        self.assert_accepted(system, True)
        self.assert_accepted(system, False)
        self.assert_best(system, True, [Fraction(19, 2)] * 20)
        self.assert_best(system, False, [9] * 20)

    def test_several_closed_parts(self):
        # 0 chooses a part, 1 draws one, 5 has to stay where its cost is between those of the parts.
        system = ((go(2, cost=1000), go(3), go(0, cost=5)), (go(2, 3),), (go(2, cost=7), go(2, cost=6)),
                  (go(4, cost=1),), (go(3, cost=4),), (go(5, cost=5),))
        self.assert_best(system, True, [7, Fraction(19, 4), 7, Fraction(5, 2), Fraction(5, 2), 5])
        self.assert_best(system, False, [Fraction(5, 2), Fraction(17, 4), 6, Fraction(5, 2), Fraction(5, 2), 5])
        self.assert_both(system)

    def test_a_draw_that_is_taken_again_and_again(self):
        # From 0 one may try until the better part is reached, from 1 only once.
        system = ((go(0, 2), go(0, 3)), (go(2, 3),), (go(2, cost=9),), (go(3, cost=1),), (go(0), go(1)))
        self.assert_best(system, True, [9, 5, 9, 1, 9])
        self.assert_best(system, False, [1, 5, 9, 1, 1])

    def test_a_dear_way_to_a_cheap_part(self):
        system = tuple((go(min(state + 1, 9), cost=1000), go(state, cost=5)) for state in range(9))
        self.assert_best((*system, (go(9, cost=2),)), False, [2] * 10)
        self.assert_best((*system, (go(9, cost=2),)), True, [5] * 9 + [2])

    def test_choices_with_the_same_gain_differ_in_their_costs(self):
        # Condition 2 looks at the potentials although all gains are the same.
        system = ((go(1, cost=3), go(1, cost=8), go(1)), (go(1, cost=2),))
        self.assert_best(system, True, [2, 2])
        self.assert_best(system, False, [2, 2])
        self.assertEqual(best_averages(system, True)[2], (1, 0))
        self.assertEqual(best_averages(system, False)[2], (2, 0))

    def test_a_choice_with_a_lower_gain_and_a_greater_cost(self):
        # The dear choice leads to where less is paid, so its potentials do not count.
        system = ((go(0, cost=5), go(1, cost=1000)), (go(1),))
        self.assert_best(system, True, [5, 0])
        system = ((go(0, cost=5), go(1)), (go(1, cost=1000),))
        self.assert_best(system, False, [5, 1000])

    def test_all_small_systems(self):
        supports = [go(0, cost=2), go(1, cost=5), (3, ((0, 1), (1, 2)))]
        choices = [tuple(supports[at] for at in chosen) for chosen in subsets(3) if chosen]
        for system in product(choices, repeat=2):
            self.assert_both(system)

    def test_many_small_systems(self):
        random = Random(51)
        for states, many, ends in [(3, 3, 2), (4, 2, 2), (4, 3, 1), (5, 2, 3), (6, 2, 2), (5, 3, 1)] * 15:
            self.assert_both(random_system(random, states, many, ends, random.choice((1, 2, 6)), 3))

    def test_systems_of_parts(self):
        # Three parts of two states, beside them two states that pass to any of them.
        random = Random(52)
        for _ in range(15):
            system = []
            for state in range(6):
                first = state - state % 2
                choices = [go(*random.choice(([first], [first + 1], [first, first + 1])),
                              cost=random.randint(0, 4)) for _ in range(2)]
                if random.random() < 0.2:
                    choices[1] = random_choice(random, 8, 2, 4, 3)
                system.append(tuple(choices))
            system += [tuple(random_choice(random, 8, 3, 4, 3) for _ in range(2)) for _ in range(2)]
            self.assert_both(tuple(system))

    def test_systems_of_5_to_20_states(self):
        random = Random(53)
        for states in range(5, 21):
            for many, ends, cost, weight in ((6, 6, 1000, 1000), (6, 2, 1, 3), (3, 1, 2, 1), (2, 2, 50, 5)):
                system = random_system(random, states, many, ends, cost, weight)
                for most in (True, False):
                    self.assert_accepted(system, most)

    def test_great_systems(self):
        random = Random(54)
        for _ in range(4):
            system = full_system(random, 20)
            for most in (True, False):
                self.assert_accepted(system, most)

    def test_arguments_are_as_before(self):
        system = ((go(1, cost=2), go(0, 2)), (go(1),), (go(0),))
        before = deepcopy(system)
        for most in (True, False):
            best_averages(system, most)
        self.assertEqual(system, before)


def fractions(*values):
    return tuple(pair(Fraction(value)) for value in values)


class JudgeTest(unittest.TestCase):

    def judged(self, accepted, system, most, gains, potentials, policy):
        certificate = (fractions(*gains), fractions(*potentials), policy)
        with self.subTest(most=most, certificate=certificate):
            self.assertIs(judge_averages(system, most, certificate), accepted)
            self.assertEqual(accepts_averages(system, most, certificate), accepted)

    def both(self, accepted, system, gains, potentials, policy):
        for most in (True, False):
            self.judged(accepted, system, most, gains, potentials, policy)

    # From 0 one comes to 1, where 3 is paid for each step.
    one_way = ((go(1, cost=5), go(1, cost=5)), (go(1, cost=3),))

    def test_accepted(self):
        self.both(True, self.one_way, (3, 3), (2, 0), (0, 0))
        self.both(True, self.one_way, (3, 3), (2, 0), (1, 0))

    def test_potentials_that_are_all_moved_by_the_same_number(self):
        for by in (1, -7, Fraction(1, 3), 10 ** 30):
            self.both(True, self.one_way, (3, 3), (2 + by, by), (0, 0))

    def test_gains_that_are_changed(self):
        for gains in ((4, 4), (2, 2), (4, 3), (2, 3), (3, 4), (3, 2), (0, 0), (-3, -3), (Fraction(301, 100), 3)):
            self.both(False, self.one_way, gains, (2, 0), (0, 0))
        # The sums fit, but the gain of 0 is not that of its end.
        self.both(False, self.one_way, (4, 3), (1, 0), (0, 0))
        self.both(False, self.one_way, (2, 3), (3, 0), (0, 0))

    def test_potentials_that_are_changed(self):
        for potentials in ((3, 0), (1, 0), (2, 1), (2, -1), (0, 0), (Fraction(201, 100), 0)):
            self.both(False, self.one_way, (3, 3), potentials, (0, 0))

    def test_choices_that_do_not_exist(self):
        for policy in ((2, 0), (-1, 0), (0, 1), (0, -1), (-2, 0), (10 ** 30, 0)):
            self.both(False, self.one_way, (3, 3), (2, 0), policy)

    def test_a_member_too_few_or_too_many(self):
        good = {"gains": (3, 3), "potentials": (2, 0), "policy": (0, 0)}
        for name, extra in (("gains", 3), ("potentials", 0), ("policy", 0)):
            for length in range(2):
                self.both(False, self.one_way, **{**good, name: good[name][:length]})
            for length in (1, 2, 30):
                self.both(False, self.one_way, **{**good, name: good[name] + (extra,) * length})
        self.both(False, self.one_way, (), (), ())
        self.both(False, self.one_way, (3, 3, 3), (2, 0, 0), (0, 0, 0))
        self.both(False, self.one_way, (3,), (2,), (0,))

    def test_pairs_that_are_no_fractions(self):
        for at, part in ((0, ((6, 2), (3, 1))), (0, ((3, 1), (-3, -1))), (0, ((3, 0), (3, 0))),
                         (1, ((4, 2), (0, 1))), (1, ((2, 1), (0, 5))), (1, ((2, 1), (0, 0)))):
            for most in (True, False):
                certificate = [fractions(3, 3), fractions(2, 0), (0, 0)]
                self.assertIs(judge_averages(self.one_way, most, tuple(certificate)), True)
                certificate[at] = part
                self.assertIs(judge_averages(self.one_way, most, tuple(certificate)), False)

    def test_a_mean_of_gains_that_is_better(self):
        system = ((go(0, cost=1), go(1)), (go(1, cost=4),))
        self.judged(True, system, True, (4, 4), (-4, 0), (1, 0))
        self.judged(False, system, True, (1, 4), (0, 0), (0, 0))
        self.judged(True, system, False, (1, 4), (0, 0), (0, 0))
        self.judged(False, system, False, (4, 4), (-4, 0), (1, 0))

    def test_a_mean_of_gains_of_the_policy_that_is_not_the_gain(self):
        system = ((go(0, cost=1), go(1)), (go(1, cost=4),))
        self.judged(False, system, True, (4, 4), (-4, 0), (0, 0))
        self.judged(False, system, False, (1, 4), (0, 0), (1, 0))
        self.judged(False, system, False, (1, 4), (-3, 0), (1, 0))
        self.judged(False, system, True, (5, 4), (0, 0), (1, 0))

    def test_a_better_sum_among_the_choices_with_the_gain(self):
        system = ((go(1, cost=3), go(1, cost=8)), (go(1, cost=2),))
        self.judged(True, system, True, (2, 2), (6, 0), (1, 0))
        self.judged(False, system, True, (2, 2), (1, 0), (0, 0))
        self.judged(True, system, False, (2, 2), (1, 0), (0, 0))
        self.judged(False, system, False, (2, 2), (6, 0), (1, 0))

    def test_a_sum_of_the_policy_that_does_not_fit(self):
        system = ((go(1, cost=3), go(1, cost=8)), (go(1, cost=2),))
        self.judged(False, system, True, (2, 2), (6, 0), (0, 0))
        self.judged(False, system, False, (2, 2), (1, 0), (1, 0))
        self.judged(False, system, True, (2, 2), (7, 0), (1, 0))
        self.judged(False, system, False, (2, 2), (0, 0), (0, 0))

    def test_sums_of_choices_with_another_mean_of_gains_do_not_count(self):
        system = ((go(0, cost=5), go(1, cost=1000)), (go(1),))
        self.judged(True, system, True, (5, 0), (0, 0), (0, 0))
        self.judged(True, system, True, (5, 0), (-900, 900), (0, 0))
        system = ((go(0, cost=5), go(1)), (go(1, cost=9),))
        self.judged(True, system, False, (5, 9), (0, 0), (0, 0))
        self.judged(True, system, False, (5, 9), (900, -900), (0, 0))

    def test_turns(self):
        system = ((go(1, cost=1),), (go(0, cost=4),))
        self.both(True, system, (Fraction(5, 2),) * 2, (0, Fraction(3, 2)), (0, 0))
        self.both(False, system, (Fraction(5, 2),) * 2, (0, 0), (0, 0))
        self.both(False, system, (1, 4), (0, 0), (0, 0))

    def changed(self, random, certificate):
        parts = [list(part) for part in certificate]
        at = random.randrange(len(parts[0]))
        what = random.randrange(5)
        if what < 2:
            parts[what][at] = random.choice([(0, 1), (1, 1), (1, 2), (-1, 2), parts[what][at - 1]])
        elif what == 2:
            parts[2][at] = random.randint(-1, 2)
        elif what == 3:
            by = random.choice([Fraction(1), Fraction(-2, 3)])
            parts[1] = [pair(Fraction(*value) + by) for value in parts[1]]
        else:
            part = random.choice(parts)
            part[at:] = part[at:][:random.randint(0, 2)] * random.randint(1, 2)
        return tuple(tuple(part) for part in parts)

    def test_changed_certificates(self):
        random = Random(55)
        answers = {True: 0, False: 0}
        for states, choices, ends in [(2, 2, 2), (3, 3, 2), (4, 2, 2), (5, 3, 1)] * 40:
            system = random_system(random, states, choices, ends, 2, 3)
            for most in (True, False):
                certificate = best_averages(system, most)
                for _ in range(10):
                    changed = self.changed(random, certificate)
                    expected = accepts_averages(system, most, changed)
                    with self.subTest(system=system, most=most, changed=changed):
                        self.assertIs(judge_averages(system, most, changed), expected)
                    if expected:
                        answers[True] += changed != certificate
                        self.assertEqual(changed[0], certificate[0])
                    answers[False] += not expected
        self.assertGreater(min(answers.values()), 400)

    def test_arguments_are_as_before(self):
        system = ((go(1, cost=2), go(0, 2)), (go(1),), (go(0),))
        for most in (True, False):
            certificate = best_averages(system, most)
            before = deepcopy((system, certificate))
            judge_averages(system, most, certificate)
            self.assertEqual((system, certificate), before)


if __name__ == "__main__":
    unittest.main()
