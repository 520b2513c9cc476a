"""Sure states (points 8 and 9), held against a search over all policies."""

import unittest
from copy import deepcopy
from itertools import product
from random import Random

from bestodds import sure
from bestodds.sure import attainable, avoidable, certain, possible
from search import random_system, some_states, subsets, sure_sets

ALL = {"possible": possible, "avoidable": avoidable, "attainable": attainable, "certain": certain}


def answers(system, allowed, targets):
    return {name: ALL[name](system, allowed, targets) for name in ALL}


def go(*ends):
    """A choice that goes to each of these ends with the same chance."""
    return (0, tuple((end, 1) for end in ends))


class SureTest(unittest.TestCase):

    def assert_answers(self, system, allowed, targets, **expected):
        self.assertEqual(answers(system, allowed, targets), expected)
        self.assertEqual(sure_sets(system, allowed, targets), expected)

    def test_everything_is_defined_in_the_file(self):
        for name in ALL:
            self.assertEqual(getattr(sure, name).__module__, "bestodds.sure")

    def test_kinds_of_values(self):
        system = ((go(1),), (go(1),))
        for name in ALL:
            found = ALL[name](system, [0], [1])
            self.assertIs(type(found), list)
            self.assertEqual({type(state) for state in found} - {int}, set())

    def test_one_state(self):
        system = ((go(0),),)
        for allowed in ([], [0]):
            self.assert_answers(system, allowed, [0],
                                possible=[0], avoidable=[], attainable=[0], certain=[0])
            self.assert_answers(system, allowed, [],
                                possible=[], avoidable=[0], attainable=[], certain=[])

    def test_the_four_sets_differ(self):
        # 0 may wait, 1 draws between the target 4 and the trap 5, 2 may choose, 3 must go to 4.
        system = ((go(0), go(0, 4)), (go(4, 5),), (go(4), go(5)), (go(0, 4), go(4)), (go(5),), (go(5),))
        self.assert_answers(system, [0, 1, 2, 3, 5], [4], possible=[0, 1, 2, 3, 4],
                            avoidable=[0, 2, 5], attainable=[0, 2, 3, 4], certain=[4])
        self.assert_answers(system[:3] + ((go(4),),) + system[4:], [0, 1, 2, 3, 5], [4],
                            possible=[0, 1, 2, 3, 4], avoidable=[0, 2, 5],
                            attainable=[0, 2, 3, 4], certain=[3, 4])

    def test_choices_that_lead_back_to_their_own_state(self):
        system = ((go(0, 1),), (go(1),))
        self.assert_answers(system, [0], [1], possible=[0, 1], avoidable=[],
                            attainable=[0, 1], certain=[0, 1])
        system = ((go(0, 1), go(0)), (go(1),))
        self.assert_answers(system, [0], [1], possible=[0, 1], avoidable=[0],
                            attainable=[0, 1], certain=[1])

    def test_states_that_are_neither(self):
        system = ((go(1),), (go(2),), (go(2),))
        self.assert_answers(system, [0], [2], possible=[2], avoidable=[0, 1],
                            attainable=[2], certain=[2])
        self.assert_answers(system, [1], [2], possible=[1, 2], avoidable=[0],
                            attainable=[1, 2], certain=[1, 2])

    def test_targets_need_not_be_allowed(self):
        system = ((go(1),), (go(0),))
        for allowed in ([0], [0, 1], [1, 0]):
            self.assert_answers(system, allowed, [1], possible=[0, 1], avoidable=[],
                                attainable=[0, 1], certain=[0, 1])

    def test_ends_that_leave_the_allowed_states(self):
        system = ((go(1, 2), go(0, 2)), (go(1),), (go(2),))
        self.assert_answers(system, [0], [2], possible=[0, 2], avoidable=[1],
                            attainable=[0, 2], certain=[2])

    def test_all_states_are_targets(self):
        system = ((go(1), go(0)), (go(0, 1),), (go(1),))
        for allowed in subsets(3):
            self.assert_answers(system, allowed, [2, 0, 1], possible=[0, 1, 2], avoidable=[],
                                attainable=[0, 1, 2], certain=[0, 1, 2])

    def test_no_state_is_a_target(self):
        system = ((go(1), go(0)), (go(0, 1),), (go(1),))
        for allowed in subsets(3):
            self.assert_answers(system, allowed, [], possible=[], avoidable=[0, 1, 2],
                                attainable=[], certain=[])

    def test_what_is_attainable_may_be_seen_only_late(self):
        # The first choice of each state has a chance of the trap, which a longer way avoids.
        many = 8
        system = tuple((go(state + 1, many + 1), go(0, state + 1)) for state in range(many))
        system += ((go(many),), (go(many + 1),))
        self.assert_answers(system, list(range(many)), [many], possible=list(range(many + 1)),
                            avoidable=[many + 1], attainable=list(range(many + 1)), certain=[many])
        # The trap at the end of the longer way takes one state after the other.
        system = tuple((go(state + 1),) for state in range(many)) + ((go(0, many + 1),), (go(many + 1),))
        self.assert_answers(system, list(range(many + 1)), [0], possible=list(range(many + 1)),
                            avoidable=[many + 1], attainable=[0], certain=[0])

    def test_a_chain_of_twenty_states(self):
        system = tuple((go(min(state + 1, 19)),) for state in range(20))
        everywhere = list(range(20))
        self.assert_answers(system, everywhere, [19], possible=everywhere, avoidable=[],
                            attainable=everywhere, certain=everywhere)
        self.assert_answers(system, everywhere, [0], possible=[0], avoidable=everywhere[1:],
                            attainable=[0], certain=[0])

    def test_all_small_systems(self):
        supports = [go(0), go(1), go(0, 1)]
        choices = [tuple(supports[at] for at in chosen) for chosen in subsets(3) if chosen]
        for system in product(choices, repeat=2):
            for allowed, targets in product(subsets(2), repeat=2):
                with self.subTest(system=system, allowed=allowed, targets=targets):
                    self.assertEqual(answers(system, allowed, targets),
                                     sure_sets(system, allowed, targets))

    def test_many_small_systems(self):
        random = Random(5)
        for states, choices, ends in [(3, 3, 2), (4, 3, 2), (5, 2, 3), (6, 2, 2)] * 100:
            system = random_system(random, states, choices, ends)
            allowed, targets = some_states(random, states), some_states(random, states)[:2]
            with self.subTest(system=system, allowed=allowed, targets=targets):
                self.assertEqual(answers(system, allowed, targets),
                                 sure_sets(system, allowed, targets))

    def test_the_order_of_the_sets_does_not_matter(self):
        random = Random(6)
        for _ in range(30):
            system = random_system(random, 20, 6, 6)
            allowed, targets = some_states(random, 20), random.sample(range(20), 3)
            self.assertEqual(answers(system, allowed, targets),
                             answers(system, sorted(allowed), sorted(targets, reverse=True)))

    def test_arguments_are_as_before_and_lists_are_new(self):
        system, allowed, targets = ((go(1), go(0)), (go(0, 1),), (go(1),)), [2, 0], [1]
        before = deepcopy((system, allowed, targets))
        for name in ALL:
            first = ALL[name](system, allowed, targets)
            kept = list(first)
            self.assertIsNot(first, targets)
            first.append(7)
            self.assertEqual(ALL[name](system, allowed, targets), kept)
        self.assertEqual((system, allowed, targets), before)


if __name__ == "__main__":
    unittest.main()
