"""Systems: their faults and their moves (points 3 to 5)."""

import unittest
from copy import deepcopy
from fractions import Fraction
from math import gcd
from random import Random

from bestodds import systems
from bestodds.systems import cost_and_mean, fault, is_policy, mean, moves

EXAMPLE = (((0, ((0, 1), (1, 2))),), ((5, ((1, 1),)),))
STAY = (0, ((0, 1),))


def alone(cost, ends):
    """A system of eight states in which state 0 has one choice, with this cost and these ends."""
    return (((cost, ends),),) + ((STAY,),) * 7


def ends_of(many):
    """The first `many` states as ends."""
    return tuple((state, 1) for state in range(many))


class FaultTest(unittest.TestCase):

    def assert_fault(self, system, expected):
        found = fault(system)
        self.assertIs(type(found), tuple)
        self.assertEqual(found, expected)

    def test_everything_is_defined_in_the_file(self):
        for name in ("fault", "moves"):
            self.assertEqual(getattr(systems, name).__module__, "bestodds.systems")

    def test_valid_systems(self):
        self.assertIsNone(fault(EXAMPLE))
        self.assertIsNone(fault(((STAY,),)))

    def test_number_of_states(self):
        self.assertIsNone(fault(((STAY,),)))
        self.assertIsNone(fault(((STAY,),) * 20))
        self.assert_fault((), ("states",))
        self.assert_fault(((STAY,),) * 21, ("states",))
        self.assert_fault(((STAY,),) * 40, ("states",))

    def test_number_of_choices(self):
        self.assertIsNone(fault(((STAY,), (STAY,) * 6)))
        self.assertIsNone(fault(((STAY,) * 6,)))
        self.assert_fault(((),), ("choices", 0))
        self.assert_fault(((STAY,) * 7,), ("choices", 0))
        self.assert_fault(((STAY,), (), (STAY,)), ("choices", 1))
        self.assert_fault(((STAY,), (STAY,), (STAY,) * 7), ("choices", 2))

    def test_costs(self):
        self.assertIsNone(fault(alone(0, ends_of(1))))
        self.assertIsNone(fault(alone(1000, ends_of(1))))
        self.assert_fault(alone(-1, ends_of(1)), ("cost", 0, 0))
        self.assert_fault(alone(1001, ends_of(1)), ("cost", 0, 0))

    def test_number_of_ends(self):
        for many in range(1, 7):
            self.assertIsNone(fault(alone(0, ends_of(many))))
        self.assert_fault(alone(0, ()), ("ends", 0, 0))
        self.assert_fault(alone(0, ends_of(7)), ("ends", 0, 0))

    def test_order_of_ends(self):
        self.assertIsNone(fault(alone(0, ((0, 1), (3, 1), (7, 1)))))
        self.assert_fault(alone(0, ((1, 1), (0, 1))), ("ends", 0, 0))
        self.assert_fault(alone(0, ((0, 1), (2, 1), (1, 1))), ("ends", 0, 0))
        self.assert_fault(alone(0, ((3, 1), (1, 1), (2, 1))), ("ends", 0, 0))

    def test_ends_that_occur_twice(self):
        self.assert_fault(alone(0, ((0, 1), (0, 1))), ("ends", 0, 0))
        self.assert_fault(alone(0, ((0, 1), (2, 1), (2, 3))), ("ends", 0, 0))

    def test_ends_that_are_not_there(self):
        self.assertIsNone(fault(alone(0, ((7, 1),))))
        self.assert_fault(alone(0, ((8, 1),)), ("ends", 0, 0))
        self.assert_fault(alone(0, ((0, 1), (8, 1))), ("ends", 0, 0))
        self.assert_fault(alone(0, ((-1, 1),)), ("ends", 0, 0))
        self.assert_fault(alone(0, ((-1, 1), (0, 1))), ("ends", 0, 0))
        self.assert_fault(((((0, ((1, 1),))),),), ("ends", 0, 0))

    def test_weights(self):
        self.assertIsNone(fault(alone(0, ((0, 1), (1, 1000)))))
        self.assertIsNone(fault(alone(0, ((0, 1000), (1, 1)))))
        self.assert_fault(alone(0, ((0, 0),)), ("ends", 0, 0))
        self.assert_fault(alone(0, ((0, -1),)), ("ends", 0, 0))
        self.assert_fault(alone(0, ((0, 1001),)), ("ends", 0, 0))
        self.assert_fault(alone(0, ((0, 1), (1, 0))), ("ends", 0, 0))
        self.assert_fault(alone(0, ((0, 1), (1, 1001))), ("ends", 0, 0))
        self.assert_fault(alone(0, ((0, 0), (1, 1))), ("ends", 0, 0))

    def test_the_fault_names_the_state_and_the_choice(self):
        self.assert_fault(((STAY,), (STAY, (-1, ((0, 1),)))), ("cost", 1, 1))
        self.assert_fault(((STAY,), (STAY, STAY, (0, ()))), ("ends", 1, 2))
        self.assert_fault(((STAY,),) * 19 + ((STAY,) * 5 + ((1001, ((0, 1),)),),), ("cost", 19, 5))
        self.assert_fault(((STAY,),) * 19 + ((STAY,) * 5 + ((0, ((20, 1),)),),), ("ends", 19, 5))

    def test_the_greatest_system(self):
        choice = (1000, tuple((state, 1000) for state in range(14, 20)))
        self.assertIsNone(fault(((choice,) * 6,) * 20))


class FirstFaultTest(unittest.TestCase):
    """Systems in which several things are wrong."""

    def test_the_number_of_states_comes_first(self):
        self.assertEqual(fault(((),) * 21), ("states",))
        self.assertEqual(fault((((-1, ()),),) * 21), ("states",))

    def test_the_states_are_looked_at_in_order(self):
        bad_cost = ((-1, ((0, 1),)),)
        bad_ends = ((0, ()),)
        self.assertEqual(fault((bad_cost, ())), ("cost", 0, 0))
        self.assertEqual(fault((bad_ends, ())), ("ends", 0, 0))
        self.assertEqual(fault((bad_ends, bad_cost)), ("ends", 0, 0))
        self.assertEqual(fault(((), bad_cost)), ("choices", 0))
        self.assertEqual(fault(((STAY,), (), bad_cost)), ("choices", 1))
        self.assertEqual(fault(((), ())), ("choices", 0))

    def test_the_number_of_choices_comes_before_the_choices(self):
        self.assertEqual(fault((((-1, ()),) * 7,)), ("choices", 0))
        self.assertEqual(fault((((0, ()),) * 7,)), ("choices", 0))

    def test_the_choices_are_looked_at_in_order(self):
        bad_cost = (-1, ((0, 1),))
        bad_ends = (0, ((0, 0),))
        self.assertEqual(fault(((bad_ends, bad_cost),)), ("ends", 0, 0))
        self.assertEqual(fault(((bad_cost, bad_ends),)), ("cost", 0, 0))
        self.assertEqual(fault(((STAY, bad_ends, bad_cost),)), ("ends", 0, 1))
        self.assertEqual(fault(((bad_cost, bad_cost),)), ("cost", 0, 0))
        self.assertEqual(fault(((bad_ends, bad_ends),)), ("ends", 0, 0))

    def test_the_cost_comes_before_the_ends(self):
        self.assertEqual(fault((((-1, ()),),)), ("cost", 0, 0))
        self.assertEqual(fault((((1001, ((0, 0),)),),)), ("cost", 0, 0))
        self.assertEqual(fault(((STAY,), (STAY, (1001, ((5, 1),))))), ("cost", 1, 1))


class MovesTest(unittest.TestCase):

    def test_the_example_of_the_document(self):
        self.assertEqual(moves(EXAMPLE, 0, 0), [(0, (1, 3)), (1, (2, 3))])

    def test_the_state_and_the_choice_are_the_ones_asked_for(self):
        system = (
            ((0, ((0, 1),)), (7, ((0, 1), (1, 3)))),
            ((3, ((1, 5),)), (0, ((0, 2), (1, 3))), (1, ((0, 9),))),
        )
        self.assertEqual(moves(system, 0, 0), [(0, (1, 1))])
        self.assertEqual(moves(system, 0, 1), [(0, (1, 4)), (1, (3, 4))])
        self.assertEqual(moves(system, 1, 0), [(1, (1, 1))])
        self.assertEqual(moves(system, 1, 1), [(0, (2, 5)), (1, (3, 5))])
        self.assertEqual(moves(system, 1, 2), [(0, (1, 1))])

    def test_lowest_terms(self):
        self.assertEqual(moves(alone(0, ((1, 2), (4, 4), (7, 6))), 0, 0),
                         [(1, (1, 6)), (4, (1, 3)), (7, (1, 2))])
        self.assertEqual(moves(alone(0, ((2, 1000), (3, 1000))), 0, 0),
                         [(2, (1, 2)), (3, (1, 2))])
        self.assertEqual(moves(alone(0, ((6, 1000),)), 0, 0), [(6, (1, 1))])

    def test_kinds_of_values(self):
        found = moves(EXAMPLE, 0, 0)
        self.assertIs(type(found), list)
        for pair in found:
            self.assertIs(type(pair), tuple)
            self.assertIs(type(pair[0]), int)
            self.assertIs(type(pair[1]), tuple)
            self.assertEqual([type(part) for part in pair[1]], [int, int])

    def test_the_chances_of_many_choices(self):
        for first in range(1, 1001, 37):
            for second in (1, 2, 360, 999, 1000):
                weights = (first, second, 7)
                system = alone(5, tuple(zip((0, 2, 5), weights)))
                found = moves(system, 0, 0)
                self.assertEqual([end for end, _ in found], [0, 2, 5])
                self.assertEqual(sum(Fraction(*chance) for _, chance in found), 1)
                for weight, (_, (n, d)) in zip(weights, found):
                    self.assertEqual(Fraction(n, d), Fraction(weight, sum(weights)))
                    self.assertEqual(gcd(n, d), 1)

    def test_six_ends(self):
        ends = tuple((state, state) for state in range(2, 8))
        self.assertEqual(moves(alone(0, ends), 0, 0), [
            (2, (2, 27)), (3, (1, 9)), (4, (4, 27)), (5, (5, 27)), (6, (2, 9)), (7, (7, 27))])

    def test_the_list_is_new_and_the_system_is_as_before(self):
        system = deepcopy(EXAMPLE)
        moves(system, 0, 0).clear()
        self.assertEqual(moves(system, 0, 0), [(0, (1, 3)), (1, (2, 3))])
        self.assertEqual(system, EXAMPLE)


class MeanTest(unittest.TestCase):

    def test_the_mean_over_a_choice(self):
        system = ((STAY, (7, ((0, 1), (1, 2)))), ((3, ((0, 1), (1, 3))), (0, ((1, 1),))))
        numbers = [(1, 2), (-1, 3)]
        self.assertEqual(mean(system, 0, 0, numbers), (1, 2))
        self.assertEqual(mean(system, 0, 1, numbers), (-1, 18))
        self.assertEqual(mean(system, 1, 0, numbers), (-1, 8))
        self.assertEqual(mean(system, 1, 1, tuple(numbers)), (-1, 3))
        self.assertEqual(mean(system, 0, 1, [(4, 1), (-2, 1)]), (0, 1))

    def test_six_ends(self):
        ends = tuple((state, state) for state in range(2, 8))
        numbers = [(state, 1) for state in range(8)]
        self.assertEqual(mean(alone(0, ends), 0, 0, numbers), (139, 27))

    def test_numbers_with_other_denominators(self):
        random = Random(7)
        for _ in range(300):
            ends = tuple((end, random.randint(1, 9)) for end in sorted(random.sample(range(8), random.randint(1, 6))))
            values = [Fraction(random.randint(-20, 20), random.randint(1, 12)) for _ in range(8)]
            numbers = [(value.numerator, value.denominator) for value in values]
            expected = sum(weight * values[end] for end, weight in ends) / sum(weight for _, weight in ends)
            system = ((STAY, (random.randint(0, 50), ends)),)
            self.assertEqual(mean(system, 0, 1, numbers), (expected.numerator, expected.denominator))
            expected += system[0][1][0]
            self.assertEqual(cost_and_mean(system, 0, 1, numbers), (expected.numerator, expected.denominator))


class PolicyTest(unittest.TestCase):
    """A policy has the number of a choice for each state (point 4)."""

    system = ((STAY,), (STAY, STAY, STAY))

    def test_policies(self):
        for policy in ((0, 0), (0, 1), (0, 2), [0, 2]):
            self.assertIs(is_policy(self.system, policy), True)

    def test_choices_that_are_not_there(self):
        for policy in ((1, 0), (-1, 0), (0, 3), (0, -1), (0, -3), (0, 1000)):
            self.assertIs(is_policy(self.system, policy), False)

    def test_another_number_of_states(self):
        for policy in ((), (0,), (0, 0, 0), (0,) * 40):
            self.assertIs(is_policy(self.system, policy), False)


if __name__ == "__main__":
    unittest.main()
