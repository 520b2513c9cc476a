"""Maximal closed parts (point 10), held against a search over all sets of states."""

import unittest
from copy import deepcopy
from itertools import product
from random import Random

from bestodds import parts
from bestodds.parts import closed_parts
from search import maximal_parts, random_system, subsets


def go(*ends):
    """A choice that goes to each of these ends with the same chance."""
    return (0, tuple((end, 1) for end in ends))


class PartsTest(unittest.TestCase):

    def assert_parts(self, system, expected):
        self.assertEqual(closed_parts(system), expected)
        if len(system) <= 8:
            self.assertEqual(maximal_parts(system), expected)

    def test_everything_is_defined_in_the_file(self):
        self.assertEqual(closed_parts.__module__, "bestodds.parts")
        self.assertIs(parts.closed_parts, closed_parts)

    def test_kinds_of_values(self):
        found = closed_parts(((go(0), go(0)), (go(1), go(0))))
        self.assertIs(type(found), list)
        for part in found:
            self.assertIs(type(part), list)
            for pair in part:
                self.assertIs(type(pair), tuple)
                self.assertEqual([type(member) for member in pair], [int, tuple])

    def test_one_state(self):
        self.assert_parts(((go(0),),), [[(0, (0,))]])
        self.assert_parts(((go(0),) * 6,), [[(0, (0, 1, 2, 3, 4, 5))]])

    def test_one_part_of_several_states(self):
        self.assert_parts(((go(1),), (go(2),), (go(0),)), [[(0, (0,)), (1, (0,)), (2, (0,))]])
        self.assert_parts(((go(0, 1), go(2)), (go(2),), (go(1), go(0, 1, 2))),
                          [[(0, (0, 1)), (1, (0,)), (2, (0, 1))]])

    def test_states_in_no_part(self):
        self.assert_parts(((go(1),), (go(1),)), [[(1, (0,))]])
        self.assert_parts(((go(0),), (go(0, 1),), (go(1, 3),), (go(3),)), [[(0, (0,))], [(3, (0,))]])

    def test_choices_that_lead_out_of_the_part(self):
        self.assert_parts(((go(1), go(0, 2)), (go(2), go(0)), (go(2),)),
                          [[(0, (0,)), (1, (1,))], [(2, (0,))]])
        self.assert_parts(((go(0), go(1), go(0, 1), go(0)), (go(1),)),
                          [[(0, (0, 3))], [(1, (0,))]])

    def test_parts_with_states_between_each_other(self):
        system = ((go(2),), (go(3),), (go(0), go(1)), (go(1),), (go(0, 1),))
        self.assert_parts(system, [[(0, (0,)), (2, (0,))], [(1, (0,)), (3, (0,))]])

    def test_a_part_that_falls_apart_step_by_step(self):
        # Everything is joined in a ring until the draw of the last state is given up.
        system = tuple((go(state + 1),) for state in range(6)) + ((go(0, 7),), (go(7),))
        self.assert_parts(system, [[(7, (0,))]])
        system = tuple((go(state + 1), go(state)) for state in range(6)) + ((go(0, 7),), (go(7),))
        self.assert_parts(system, [[(state, (1,))] for state in range(6)] + [[(7, (0,))]])

    def test_parts_that_come_apart_when_a_bridge_is_given_up(self):
        system = ((go(1), go(2)), (go(0),), (go(3),), (go(2), go(0, 4)), (go(4),))
        self.assert_parts(system, [[(0, (0,)), (1, (0,))], [(2, (0,)), (3, (0,))], [(4, (0,))]])

    def test_twenty_parts(self):
        system = tuple((go((state + 1) % 20, state), go(state), go(max(state - 1, 0)))
                       for state in range(20))
        self.assertEqual(closed_parts(system), [[(state, (0, 1, 2)) for state in range(20)]])
        system = tuple((go(min(state + 1, 19)), go(state)) for state in range(20))
        expected = [[(state, (1,))] for state in range(19)] + [[(19, (0, 1))]]
        self.assertEqual(closed_parts(system), expected)
        system = tuple((go(state),) for state in range(20))
        self.assertEqual(closed_parts(system), [[(state, (0,))] for state in range(20)])

    def test_ten_parts_of_two_states(self):
        system = tuple((go(state ^ 1), go(state, min(state + 2, 19))) for state in range(20))
        expected = [[(state, (0,)), (state + 1, (0,))] for state in range(0, 20, 2)]
        expected[-1] = [(18, (0, 1)), (19, (0, 1))]
        self.assertEqual(closed_parts(system), expected)

    def test_all_small_systems(self):
        supports = [go(0), go(1), go(0, 1)]
        choices = [tuple(supports[at] for at in chosen) for chosen in subsets(3) if chosen]
        for system in product(choices, repeat=2):
            with self.subTest(system=system):
                self.assertEqual(closed_parts(system), maximal_parts(system))

    def test_many_small_systems(self):
        random = Random(7)
        for states, choices, ends in [(3, 3, 2), (4, 2, 2), (5, 2, 2), (6, 3, 2), (7, 2, 2)] * 40:
            system = random_system(random, states, choices, ends)
            with self.subTest(system=system):
                self.assertEqual(closed_parts(system), maximal_parts(system))

    def test_the_system_is_as_before_and_lists_are_new(self):
        system = ((go(1), go(0, 2)), (go(2), go(0)), (go(2),))
        before = deepcopy(system)
        first = closed_parts(system)
        kept = deepcopy(first)
        first[0].append(7)
        first.clear()
        self.assertEqual(closed_parts(system), kept)
        self.assertEqual(system, before)


if __name__ == "__main__":
    unittest.main()
