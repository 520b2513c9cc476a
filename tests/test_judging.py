"""The judge of chances (points 17 and 18): it accepts what they accept and nothing else."""

import unittest
from copy import deepcopy
from itertools import product
from random import Random

from bestodds import judging
from bestodds.chances import best_chances
from bestodds.judging import judge_chances
from search import accepts_chances, random_system, some_states


def go(*ends):
    """A choice that goes to each of these ends with the same chance."""
    return (0, tuple((end, 1) for end in ends))


ZERO, ONE, HALF, THIRD = (0, 1), (1, 1), (1, 2), (1, 3)


class JudgeTest(unittest.TestCase):

    def assert_judged(self, accepted, system, allowed, targets, most, values, policy, ranks):
        certificate = (values, policy, ranks)
        with self.subTest(most=most, certificate=certificate):
            self.assertIs(judge_chances(system, allowed, targets, most, certificate), accepted)
            self.assertEqual(accepts_chances(system, allowed, targets, most, certificate), accepted)

    def test_everything_is_defined_in_the_file(self):
        self.assertEqual(judge_chances.__module__, "bestodds.judging")
        self.assertIs(judging.judge_chances, judge_chances)


class FormTest(JudgeTest):
    """What holds for the greatest and the least chances: 0 draws between the target 1 and 2."""

    system = ((go(1, 2), go(1, 2)), (go(0), go(1), go(2)), (go(2), go(1)))

    def judged(self, accepted, values=(HALF, ONE, ZERO), policy=(0, 0, 0), ranks=(1, 0, 0)):
        for most in (True, False):
            self.assert_judged(accepted, self.system, [0], [1], most, values, policy, ranks)

    def test_accepted(self):
        self.judged(True)

    def test_ranks_that_are_not_asked_for_are_free(self):
        self.judged(True, ranks=(1, 0, 999))
        self.judged(True, ranks=(10 ** 30, 10 ** 30 - 1, 10 ** 40))

    def test_choices_where_the_wish_has_ended_are_free(self):
        for policy in product(range(2), range(3), range(2)):
            self.judged(True, policy=policy)

    def test_choices_that_are_not_there(self):
        for policy in ((2, 0, 0), (-1, 0, 0), (0, 3, 0), (0, -1, 0), (0, 0, 2), (0, 0, -1), (0, 0, -2),
                       (100, 0, 0), (-100, 0, 0), (0, 10 ** 30, 0)):
            self.judged(False, policy=policy)

    def test_ranks_below_0(self):
        for ranks in ((1, -1, 0), (1, 0, -1), (-1, -2, 0), (0, -1, 0), (1, 0, -10 ** 30)):
            self.judged(False, ranks=ranks)

    def test_values_at_the_target_and_at_a_state_that_is_neither(self):
        self.judged(False, values=(HALF, (2, 1), (-1, 1)))
        self.judged(False, values=((1, 4), HALF, ZERO))
        self.judged(False, values=(ZERO, ZERO, ZERO))
        self.judged(False, values=((3, 4), (3, 2), ZERO))
        self.judged(False, values=((3, 4), ONE, HALF))
        self.judged(False, values=(ONE, ONE, ONE))
        self.judged(False, values=(ZERO, ONE, (-1, 1)))
        self.judged(False, values=((-1, 2), (-1, 1), ZERO))

    def test_means_that_are_not_the_value(self):
        for value in (ZERO, ONE, THIRD, (2, 3), (499, 1000), (501, 1000), (2, 1), (-1, 2)):
            self.judged(False, values=(value, ONE, ZERO))

    def test_tuples_that_are_too_short_or_too_long(self):
        good = {"values": (HALF, ONE, ZERO), "policy": (0, 0, 0), "ranks": (1, 0, 0)}
        for name, extra in (("values", ZERO), ("policy", 0), ("ranks", 0)):
            for length in range(3):
                self.judged(False, **{name: good[name][:length]})
            for length in (1, 2, 40):
                self.judged(False, **{name: good[name] + (extra,) * length})
        self.judged(False, values=(), policy=(), ranks=())
        self.judged(False, values=good["values"] + (ZERO,), policy=(0,) * 4, ranks=(1, 0, 0, 0))
        self.judged(False, values=good["values"][:2], policy=(0,) * 2, ranks=(1, 0))

    def test_pairs_that_are_no_fractions(self):
        for values in (((2, 4), ONE, ZERO), (HALF, (3, 3), ZERO), (HALF, ONE, (0, 5)),
                       ((-1, -2), ONE, ZERO), (HALF, (-1, -1), ZERO), (HALF, ONE, (0, -1)),
                       (HALF, (1, 0), ZERO), (HALF, ONE, (0, 0)), ((1, 0), ONE, ZERO)):
            for most in (True, False):
                certificate = (values, (0, 0, 0), (1, 0, 0))
                self.assertIs(judge_chances(self.system, [0], [1], most, certificate), False)


class GreatestTest(JudgeTest):

    def judged(self, accepted, system, allowed, targets, values, policy, ranks):
        self.assert_judged(accepted, system, allowed, targets, True, values, policy, ranks)

    def test_a_mean_that_is_greater_than_the_value(self):
        system = ((go(1, 2), go(1)), (go(1),), (go(2),))
        self.judged(True, system, [0], [1], (ONE, ONE, ZERO), (1, 0, 0), (1, 0, 0))
        self.judged(False, system, [0], [1], (HALF, ONE, ZERO), (0, 0, 0), (1, 0, 0))
        self.judged(False, system, [0], [1], (HALF, ONE, ZERO), (1, 0, 0), (1, 0, 0))
        self.judged(False, system, [0], [1], (ZERO, ONE, ZERO), (1, 0, 0), (1, 0, 0))
        self.judged(False, system[:2] + ((go(2), go(1, 2)),), [0, 2], [1],
                    (ONE, ONE, ZERO), (1, 0, 0), (1, 0, 0))

    def test_a_choice_of_the_policy_whose_mean_is_not_the_value(self):
        system = ((go(1, 2), go(1)), (go(1),), (go(2),))
        self.judged(False, system, [0], [1], (ONE, ONE, ZERO), (0, 0, 0), (1, 0, 0))
        system = ((go(1, 2),), (go(1),), (go(2),))
        self.judged(False, system, [0], [1], ((3, 4), ONE, ZERO), (0, 0, 0), (1, 0, 0))

    def test_a_value_of_0_asks_nothing_of_the_policy(self):
        system = ((go(0), go(1)), (go(1), go(0, 1)), (go(2),))
        for policy in product(range(2), range(2)):
            self.judged(True, system, [0, 1], [2], (ZERO, ZERO, ONE), (*policy, 0), (0, 0, 0))

    def test_values_below_0(self):
        system = ((go(0),), (go(1),))
        self.judged(True, system, [0], [1], (ZERO, ONE), (0, 0), (0, 0))
        self.judged(False, system, [0], [1], ((-1, 1), ONE), (0, 0), (0, 0))

    def test_values_above_1(self):
        system = ((go(0),), (go(1),), (go(0, 1),))
        self.judged(False, system, [0, 2], [1], ((2, 1), ONE, (3, 2)), (0, 0, 0), (0, 0, 1))

    def test_a_rank_that_is_not_lower(self):
        system = ((go(1),), (go(2),), (go(2),))
        values, policy = (ONE, ONE, ONE), (0, 0, 0)
        self.judged(True, system, [0, 1], [2], values, policy, (2, 1, 0))
        self.judged(True, system, [0, 1], [2], values, policy, (9, 8, 7))
        for ranks in ((1, 1, 0), (0, 1, 0), (2, 0, 0), (2, 1, 1), (2, 1, 2), (0, 0, 0)):
            self.judged(False, system, [0, 1], [2], values, policy, ranks)

    def test_the_lower_rank_is_that_of_an_end_of_the_choice_of_the_policy(self):
        system = ((go(0), go(1)), (go(1),))
        self.judged(True, system, [0], [1], (ONE, ONE), (1, 0), (1, 0))
        self.judged(False, system, [0], [1], (ONE, ONE), (0, 0), (1, 0))

    def test_the_end_of_lower_rank_has_a_value_above_0(self):
        # From 0 one comes to 1 or to the trap 3, from 1 to 0 or to the target 2.
        system = ((go(1, 3),), (go(0, 2),), (go(2),), (go(3),))
        values = (THIRD, (2, 3), ONE, ZERO)
        for allowed in ([0, 1], [0, 1, 3]):
            self.judged(True, system, allowed, [2], values, (0,) * 4, (2, 1, 0, 0))
            self.judged(False, system, allowed, [2], values, (0,) * 4, (1, 1, 0, 0))
            self.judged(True, system, allowed, [2], values, (0,) * 4, (2, 1, 0, 5))

    def test_values_that_hold_each_other_up(self):
        system = ((go(1), go(2)), (go(0),), (go(2),), (go(2, 3),))
        for value in (ONE, HALF):
            for ranks in product(range(3), repeat=2):
                self.judged(False, system, [0, 1], [3], (value, value, ZERO, ONE), (0, 0, 0, 0), (*ranks, 0, 0))
        self.judged(True, system, [0, 1], [3], (ZERO, ZERO, ZERO, ONE), (0, 0, 0, 0), (0, 0, 0, 0))

    def test_targets_and_allowed_states_overlap(self):
        system = ((go(1),), (go(0),))
        self.judged(True, system, [0, 1], [1], (ONE, ONE), (0, 0), (1, 0))
        self.judged(True, system, [], [1, 0], (ONE, ONE), (0, 0), (0, 0))
        self.judged(False, system, [0, 1], [1, 0], (HALF, ONE), (0, 0), (1, 0))


class LeastTest(JudgeTest):

    def judged(self, accepted, system, allowed, targets, values, policy, ranks):
        self.assert_judged(accepted, system, allowed, targets, False, values, policy, ranks)

    def test_a_mean_that_is_less_than_the_value(self):
        system = ((go(1, 2), go(1)), (go(1),), (go(2),))
        self.judged(True, system, [0], [1], (HALF, ONE, ZERO), (0, 0, 0), (1, 0, 0))
        self.judged(False, system, [0], [1], (ONE, ONE, ZERO), (1, 0, 0), (1, 0, 0))

    def test_a_choice_of_the_policy_whose_mean_is_not_the_value(self):
        system = ((go(1, 2), go(1)), (go(1),), (go(2),))
        self.judged(False, system, [0], [1], (HALF, ONE, ZERO), (1, 0, 0), (1, 0, 0))
        system = ((go(1, 2),), (go(1),), (go(2),))
        self.judged(False, system, [0], [1], ((1, 4), ONE, ZERO), (0, 0, 0), (1, 0, 0))

    def test_a_value_of_0_asks_for_the_choice_of_the_policy(self):
        system = ((go(0), go(1)), (go(1),))
        self.judged(True, system, [0], [1], (ZERO, ONE), (0, 0), (0, 0))
        self.judged(False, system, [0], [1], (ZERO, ONE), (1, 0), (0, 0))
        self.judged(False, system, [0], [1], (ZERO, ONE), (1, 0), (1, 0))

    def test_a_value_of_0_asks_for_no_rank(self):
        system = ((go(0), go(1)), (go(0),), (go(2),))
        for ranks in product(range(3), repeat=3):
            self.judged(True, system, [0, 1], [2], (ZERO, ZERO, ONE), (0, 0, 0), ranks)

    def test_values_below_0(self):
        system = ((go(0),), (go(1),))
        self.judged(True, system, [0], [1], (ZERO, ONE), (0, 0), (0, 0))
        self.judged(False, system, [0], [1], ((-1, 1), ONE), (0, 0), (0, 0))

    def test_values_above_1(self):
        system = ((go(0, 1),), (go(0),), (go(2),))
        for ranks in product(range(3), repeat=2):
            self.judged(False, system, [0, 1], [2], ((2, 1), (2, 1), ONE), (0, 0, 0), (*ranks, 0))

    def test_a_rank_that_is_not_lower(self):
        system = ((go(1),), (go(2),), (go(2),))
        values, policy = (ONE, ONE, ONE), (0, 0, 0)
        self.judged(True, system, [0, 1], [2], values, policy, (2, 1, 0))
        # The target needs no lower rank.
        self.judged(True, system, [0, 1], [2], values, policy, (1, 0, 0))
        self.judged(True, system, [0, 1], [2], values, policy, (1, 0, 9))
        for ranks in ((1, 1, 0), (0, 1, 0), (0, 0, 0)):
            self.judged(False, system, [0, 1], [2], values, policy, ranks)

    def test_every_choice_has_an_end_of_lower_rank(self):
        # Waiting in 0 would avoid the target, so its chance is not 1.
        system = ((go(1), go(0)), (go(1),))
        for ranks, policy in product(product(range(3), repeat=2), range(2)):
            self.judged(False, system, [0], [1], (ONE, ONE), (policy, 0), ranks)
        system = ((go(1), go(2)), (go(2),), (go(3),), (go(3),))
        values = (ONE,) * 4
        self.judged(True, system, [0, 1, 2], [3], values, (0,) * 4, (2, 1, 0, 0))
        self.judged(False, system, [0, 1, 2], [3], values, (0,) * 4, (1, 1, 0, 0))
        self.judged(False, system, [0, 1, 2], [3], values, (1, 0, 0, 0), (1, 1, 0, 0))
        self.judged(False, system, [0, 1, 2], [3], values, (0,) * 4, (2, 3, 2, 0))

    def test_an_end_with_the_value_0_needs_no_lower_rank(self):
        # From 0 one comes to 1 or to the trap 3, from 1 to 0 or to the target 2.
        system = ((go(1, 3),), (go(0, 2),), (go(2),), (go(3),))
        values = (THIRD, (2, 3), ONE, ZERO)
        for allowed in ([0, 1], [0, 1, 3]):
            for ranks in ((0, 0, 0, 0), (0, 0, 5, 5), (1, 2, 3, 4)):
                self.judged(True, system, allowed, [2], values, (0,) * 4, ranks)

    def test_targets_and_allowed_states_overlap(self):
        system = ((go(1),), (go(0),))
        self.judged(True, system, [0, 1], [1], (ONE, ONE), (0, 0), (0, 0))
        self.judged(True, system, [], [1, 0], (ONE, ONE), (0, 0), (0, 0))
        self.judged(False, system, [0, 1], [1, 0], (HALF, ONE), (0, 0), (1, 0))


class ChangedTest(unittest.TestCase):
    """Certificates that are changed a little, held against the words of the document."""

    def changed(self, random, certificate):
        values, policy, ranks = [list(part) for part in certificate]
        at = random.randrange(len(values))
        what = random.randrange(6)
        if what == 0:
            values[at] = random.choice([ZERO, ONE, HALF, THIRD, (-1, 2), (3, 2), values[at - 1]])
        elif what == 1:
            policy[at] = random.randint(-1, 3)
        elif what in (2, 3):
            ranks[at] = random.randint(-1, 3)
        elif what == 4:
            random.shuffle(ranks)
        else:
            part = random.choice([values, policy, ranks])
            part[at:] = part[at:][:random.randint(0, 2)] * random.randint(1, 2)
        return (tuple(values), tuple(policy), tuple(ranks))

    def test_changed_certificates(self):
        random = Random(27)
        answers = {True: 0, False: 0}
        for states, choices, ends in [(2, 2, 2), (3, 3, 2), (4, 2, 2), (5, 3, 3)] * 60:
            system = random_system(random, states, choices, ends, 5, 3)
            allowed, targets = some_states(random, states), some_states(random, states)[:2]
            for most in (True, False):
                certificate = best_chances(system, allowed, targets, most)
                for _ in range(12):
                    changed = self.changed(random, certificate)
                    expected = accepts_chances(system, allowed, targets, most, changed)
                    with self.subTest(system=system, allowed=allowed, targets=targets, changed=changed):
                        self.assertIs(judge_chances(system, allowed, targets, most, changed), expected)
                    if expected:
                        answers[True] += changed != certificate
                        self.assertEqual(changed[0], certificate[0])
                    answers[False] += not expected
        self.assertGreater(min(answers.values()), 500)

    def test_the_other_certificate(self):
        random = Random(28)
        for states in (3, 5, 8, 20) * 5:
            system = random_system(random, states, 4, 3, 5, 3)
            allowed = list(range(states))
            for most in (True, False):
                other = best_chances(system, allowed, [0, 1], not most)
                self.assertIs(judge_chances(system, allowed, [0, 1], most, other),
                              accepts_chances(system, allowed, [0, 1], most, other))

    def test_arguments_are_as_before(self):
        system, allowed, targets = ((go(1), go(0, 2)), (go(1),), (go(0),)), [2, 0], [1]
        for most in (True, False):
            certificate = best_chances(system, allowed, targets, most)
            before = deepcopy((system, allowed, targets, certificate))
            judge_chances(system, allowed, targets, most, certificate)
            self.assertEqual((system, allowed, targets, certificate), before)


if __name__ == "__main__":
    unittest.main()
