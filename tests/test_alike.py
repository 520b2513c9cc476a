"""Alike states and quotients (points 35 to 37), held against all divisions of small systems."""

import unittest
from copy import deepcopy
from fractions import Fraction
from math import gcd
from random import Random

from bestodds import alike
from bestodds.alike import blocks, quotient
from bestodds.averages import best_averages
from bestodds.chances import best_chances
from bestodds.costs import best_costs
from bestodds.errors import WeightTooGreat
from bestodds.systems import fault
from search import (best_averages_over_policies, best_costs_over_policies, best_over_policies, pair,
                    random_system)


def go(*ends, cost=0):
    """A choice that goes to each of these ends with the same chance."""
    return (cost, tuple((end, 1) for end in ends))


def weighted(cost=0, **weights):
    """A choice with these weights of its ends: `e3=5` for a weight of 5 of state 3."""
    return (cost, tuple(sorted((int(end[1:]), weight) for end, weight in weights.items())))


def divisions(states):
    """All divisions of the states into blocks, as tuples of block numbers in order of the least states."""
    found = [()]
    for _ in range(states):
        found = [(*division, number) for division in found for number in range(max(division, default=-1) + 2)]
    return found


def behaviour(system, state, division):
    """The set of the choices of a state: the cost, and the chance of going into each block."""
    found = set()
    for cost, ends in system[state]:
        total = sum(weight for _, weight in ends)
        chances = [Fraction(0)] * len(system)
        for end, weight in ends:
            chances[division[end]] += Fraction(weight, total)
        found.add((cost, tuple(chances)))
    return found


def has_properties(system, groups, division):
    """Whether a division has the properties of point 35."""
    told = [(groups[state], behaviour(system, state, division)) for state in range(len(system))]
    return all(told[state] == told[division.index(division[state])] for state in range(len(system)))


def coarsest(system, groups):
    """The coarsest division of point 35, over all divisions."""
    fitting = [division for division in divisions(len(system)) if has_properties(system, groups, division)]
    best = min(fitting, key=max)
    for division in fitting:
        # All the others lie inside this one.
        assert len(set(zip(division, best))) == max(division) + 1
    return [[state for state, number in enumerate(best) if number == block] for block in range(max(best) + 1)]


def copied(random, system):
    """A system with one more state, a copy of one that shares what comes into it, all shuffled.

    Returns the system and for each of its states the state of the old one.
    """
    old = random.randrange(len(system))
    many = len(system)
    first = [tuple((cost, shared(random, ends, old, many)) for cost, ends in choices)
             for choices in [*system, system[old]]]
    first[many] = tuple(random.sample(first[many], len(first[many])))
    places = random.sample(range(many + 1), many + 1)
    states = [None] * (many + 1)
    origin = [None] * (many + 1)
    for state, choices in enumerate(first):
        states[places[state]] = tuple(
            (cost, tuple(sorted((places[end], weight) for end, weight in ends))) for cost, ends in choices)
        origin[places[state]] = old if state == many else state
    return tuple(states), origin


def shared(random, ends, old, copy):
    """The ends, with the weight of the old state shared with its copy in some way."""
    weights = {end: 2 * weight for end, weight in ends}
    if old in weights:
        mine = random.randint(0, weights[old])
        weights[copy] = weights[old] - mine
        weights[old] = mine
    return tuple(sorted((end, weight) for end, weight in weights.items() if weight))


class BlocksTest(unittest.TestCase):

    def assert_blocks(self, system, groups, expected):
        self.assertEqual(blocks(system, groups), expected)
        if len(system) <= 6:
            self.assertEqual(coarsest(system, groups), expected)

    def test_everything_is_defined_in_the_file(self):
        for name in ("blocks", "quotient"):
            self.assertEqual(getattr(alike, name).__module__, "bestodds.alike")

    def test_states_that_do_the_same(self):
        self.assert_blocks(((go(0),), (go(1),), (go(0),)), [0, 0, 0], [[0, 1, 2]])
        self.assert_blocks(((go(1), go(2)), (go(2),), (go(0, 1, 2),)), [5, 5, 5], [[0, 1, 2]])
        self.assert_blocks(((go(0),),), [7], [[0]])

    def test_groups_keep_alike_states_apart(self):
        system = ((go(0),), (go(1),), (go(0),), (go(1),))
        self.assert_blocks(system, [0, 0, 0, 0], [[0, 1, 2, 3]])
        self.assert_blocks(system, [0, 1, 0, 1], [[0, 2], [1, 3]])
        self.assert_blocks(system, [9, -5, 9, 9], [[0, 2], [1], [3]])
        self.assert_blocks(system, [3, 2, 1, 0], [[0], [1], [2], [3]])
        self.assert_blocks(system, [10 ** 30, 4, 4, 10 ** 30], [[0], [1], [2], [3]])

    def test_costs_keep_states_apart(self):
        self.assert_blocks(((go(0, cost=1),), (go(0, cost=2),), (go(1, cost=1),)), [0] * 3, [[0], [1], [2]])
        self.assert_blocks(((go(1, cost=1),), (go(0, cost=1),), (go(2),)), [0] * 3, [[0, 1], [2]])

    def test_blocks_that_are_divided_several_times(self):
        # A chain: each round tells one more state from the rest.
        many = 12
        system = tuple((go(min(state + 1, many - 1)),) for state in range(many))
        groups = [0] * (many - 1) + [1]
        self.assert_blocks(system, groups, [[state] for state in range(many)])
        self.assert_blocks(system, [0] * many, [list(range(many))])
        short = tuple((go(min(state + 2, 5)),) for state in range(6))
        self.assert_blocks(short, [0, 0, 0, 0, 0, 1], [[0], [1, 2], [3, 4], [5]])

    def test_choices_in_another_order_and_twice(self):
        system = ((go(2, cost=1), go(3, cost=2)), (go(3, cost=2), go(2, cost=1), go(2, cost=1)), (go(2),),
                  (go(3, cost=9),))
        self.assert_blocks(system, [0] * 4, [[0, 1], [2], [3]])

    def test_a_choice_more(self):
        system = ((go(2, cost=1), go(3, cost=2)), (go(3, cost=2),), (go(2),), (go(3, cost=9),))
        self.assert_blocks(system, [0] * 4, [[0], [1], [2], [3]])

    def test_weights_that_are_split_among_alike_states(self):
        system = ((weighted(e2=1, e3=1, e4=2),), (weighted(e3=5, e4=5),), (go(2),), (go(2, 3),), (go(4, cost=1),))
        self.assert_blocks(system, [0] * 5, [[0, 1], [2, 3], [4]])
        system = ((weighted(e2=1, e3=2, e4=2),), (weighted(e3=5, e4=5),), (go(2),), (go(2, 3),), (go(4, cost=1),))
        self.assert_blocks(system, [0] * 5, [[0], [1], [2, 3], [4]])

    def test_multiples_of_weights(self):
        system = ((weighted(e2=1, e3=2),), (weighted(e2=300, e3=600),), (go(2),), (go(3, cost=1),))
        self.assert_blocks(system, [0] * 4, [[0, 1], [2], [3]])

    def test_the_order_of_the_blocks(self):
        system = ((go(0, cost=9),), (go(1),), (go(0, cost=9),), (go(1),), (go(4, cost=5),))
        self.assert_blocks(system, [3, 8, 3, 8, 1], [[0, 2], [1, 3], [4]])
        self.assert_blocks(system, [8, 3, 8, 3, 9], [[0, 2], [1, 3], [4]])

    def test_all_divisions(self):
        self.assertEqual([len(divisions(states)) for states in range(1, 7)], [1, 2, 5, 15, 52, 203])

    def test_many_small_systems(self):
        random = Random(80)
        sizes = set()
        for states in [2, 3, 4, 5] * 60:
            system = random_system(random, states, 2, 2, 1, random.choice((1, 2)))
            groups = [random.randint(0, 1) for _ in range(states)]
            for given in (groups, [0] * states):
                expected = coarsest(system, given)
                self.assert_blocks(system, given, expected)
                sizes.add((states, len(expected)))
        self.assertGreater(len(sizes), 10)

    def test_copies_are_alike(self):
        random = Random(81)
        for _ in range(60):
            system = random_system(random, 6, 3, 3, 3, 4)
            origin = list(range(6))
            for _ in range(5):
                system, more = copied(random, system)
                origin = [origin[state] for state in more]
            groups = [state % 2 for state in origin]
            found = blocks(system, groups)
            self.assertEqual(sorted(state for block in found for state in block), list(range(11)))
            self.assertEqual(found, sorted(sorted(block) for block in found))
            where = {state: number for number, block in enumerate(found) for state in block}
            self.assertTrue(has_properties(system, groups, [where[state] for state in range(11)]))
            for state, other in enumerate(origin):
                self.assertEqual(where[state], where[origin.index(other)])

    def test_arguments_are_as_before_and_lists_are_new(self):
        system, groups = ((go(0),), (go(1),), (go(0),)), [0, 1, 0]
        before = deepcopy((system, groups))
        for ask in (blocks, quotient):
            ask(system, groups)
        first = blocks(system, groups)
        first[0].clear()
        self.assertEqual(blocks(system, groups), [[0, 2], [1]])
        self.assertEqual((system, groups), before)


class QuotientTest(unittest.TestCase):

    def assert_quotient(self, system, groups, expected):
        found = quotient(system, groups)
        self.assertEqual(found, expected)
        self.assertIsNone(fault(found))

    def test_kinds_of_values(self):
        found = quotient(random_system(Random(82), 8, 3, 3), [0, 1] * 4)
        self.assertIs(type(found), tuple)
        for choices in found:
            self.assertIs(type(choices), tuple)
            for choice in choices:
                self.assertEqual([type(part) for part in choice], [int, tuple])
                for end in choice[1]:
                    self.assertEqual([type(end), *[type(part) for part in end]], [tuple, int, int])

    def test_a_state_for_each_block(self):
        system = ((go(0, cost=9),), (go(1, 2),), (go(0, cost=9),), (go(3, 0),), (go(4, cost=5),))
        self.assert_quotient(system, [0] * 5, ((go(0, cost=9),), (go(0, 1),), (go(2, cost=5),)))
        self.assert_quotient(((go(1),), (go(0),)), [4, 4], ((go(0),),))
        self.assert_quotient(((go(1),), (go(0),)), [4, 3], ((go(1),), (go(0),)))

    def test_choices_of_the_least_state_in_its_order(self):
        system = ((go(2, cost=4), go(0, cost=2), go(3, cost=4)), (go(3, cost=4), go(2, cost=4), go(1, cost=2)),
                  (go(2),), (go(3, cost=1),))
        self.assert_quotient(system, [0] * 4, ((go(1, cost=4), go(0, cost=2), go(2, cost=4)), (go(1),),
                                               (go(2, cost=1),)))

    def test_weights_in_lowest_terms(self):
        system = ((weighted(e1=4, e2=6, e3=8), weighted(e0=500, e3=1000), weighted(e1=7)), (go(1),), (go(2),),
                  (go(3, cost=1),))
        self.assert_quotient(system, [0] * 4, (
            (weighted(e1=5, e2=4), weighted(e0=1, e2=2), weighted(e1=1)), (go(1),), (go(2, cost=1),)))

    def test_choices_that_are_then_the_same(self):
        system = ((weighted(3, e1=1, e2=1), weighted(2, e2=1), weighted(3, e1=4), weighted(2, e1=5),
                   weighted(2, e0=1), weighted(3, e2=9)), (go(1),), (go(2),))
        self.assert_quotient(system, [0] * 3, (
            (weighted(3, e1=1), weighted(2, e1=1), weighted(2, e0=1)), (go(1),)))
        # The same ends with other chances, or the same chances at another cost, stay.
        system = ((weighted(e1=1, e2=1), weighted(e1=1, e2=2), weighted(1, e1=1, e2=1), weighted(e1=3, e2=3)),
                  (go(1),), (go(2, cost=1),))
        self.assert_quotient(system, [0] * 3, (system[0][:3], (go(1),), (go(2, cost=1),)))

    def test_no_alike_states(self):
        system = (((1, ((0, 2), (1, 4))), (1, ((0, 1), (1, 2))), go(2)), (go(2),), (go(2, cost=1),))
        self.assert_quotient(system, [0] * 3, (((1, ((0, 1), (1, 2))), go(2)), (go(2),), (go(2, cost=1),)))

    def test_weights_up_to_1000(self):
        # 1 and 2 are alike, 3 is not.
        rest = ((go(1),), (go(2),), (go(3, cost=1),))
        for first, second, third, expected in ((500, 500, 999, (1000, 999)), (999, 1, 1, (1000, 1)),
                                               (1000, 1000, 2, (1000, 1)), (600, 900, 300, (5, 1)),
                                               (1000, 998, 1000, (999, 500))):
            system = ((weighted(e1=first, e2=second, e3=third),), *rest)
            self.assert_quotient(system, [0] * 4, (
                (weighted(e1=expected[0], e2=expected[1]),), (go(1),), (go(2, cost=1),)))

    def test_weights_that_are_too_great(self):
        rest = ((go(1),), (go(2),), (go(3, cost=1),))
        for first, second, third in ((1000, 1, 1), (500, 501, 1000), (1000, 1000, 999), (1000, 1000, 1),
                                     (1, 1000, 2)):
            system = ((weighted(e1=first, e2=second, e3=third),), *rest)
            with self.subTest(system=system), self.assertRaises(WeightTooGreat):
                quotient(system, [0] * 4)
            self.assertEqual(blocks(system, [0] * 4), [[0], [1, 2], [3]])
            # Groups that keep the states apart keep the weights apart.
            self.assertIsNone(fault(quotient(system, [0, 1, 2, 3])))
        # A choice of a state that is not the first one, behind a good one.
        system = ((go(0),), (go(1),), (go(2, cost=1),), (go(0), weighted(e0=1000, e1=1000, e2=333)))
        with self.assertRaises(WeightTooGreat):
            quotient(system, [0] * 4)

    def test_many_quotients(self):
        random = Random(83)
        told = {True: 0, False: 0}
        for _ in range(300):
            weight = random.choice((3, 1000))
            system = random_system(random, 6, 3, 4, 1, weight)
            groups = [random.randint(0, 1) for _ in range(6)]
            expected = self.by_words(system, groups)
            great = any(weight > 1000 for choices in expected for _, ends in choices for _, weight in ends)
            told[great] += 1
            with self.subTest(system=system, groups=groups):
                if great:
                    with self.assertRaises(WeightTooGreat):
                        quotient(system, groups)
                else:
                    self.assert_quotient(system, groups, expected)
        for bits in range(1, 64, 2):
            # Weights of up to 1000 that come together in two states.
            system = (tuple((0, tuple((end, random.randint(1, 1000)) for end in range(6))) for _ in range(2)),
                      *[(go(1 if bits >> state & 1 else 5, cost=bits >> state & 1),) for state in range(1, 6)])
            expected = self.by_words(system, [0] * 6)
            great = any(weight > 1000 for choices in expected for _, ends in choices for _, weight in ends)
            told[great] += 1
            if great:
                with self.assertRaises(WeightTooGreat):
                    quotient(system, [0] * 6)
            else:
                self.assert_quotient(system, [0] * 6, expected)
        self.assertGreater(min(told.values()), 10)

    def by_words(self, system, groups):
        """The quotient by the words of point 36, with weights of any size."""
        found = blocks(system, groups)
        where = {state: number for number, block in enumerate(found) for state in block}
        states = []
        for block in found:
            choices = []
            for cost, ends in system[block[0]]:
                total = sum(weight for _, weight in ends)
                chances = {}
                for end, weight in ends:
                    chances[where[end]] = chances.get(where[end], 0) + Fraction(weight, total)
                whole = {end: int(chance * total) for end, chance in chances.items()}
                divisor = gcd(*whole.values())
                choice = (cost, tuple((end, whole[end] // divisor) for end in sorted(whole)))
                if choice not in choices:
                    choices.append(choice)
            states.append(tuple(choices))
        return tuple(states)


class SameAnswersTest(unittest.TestCase):
    """Point 37: the same best chances, costs and costs in the long run before and after."""

    def assert_same(self, system, groups, search):
        small = quotient(system, groups)
        found = blocks(system, groups)
        self.assertIsNone(fault(small))
        for chosen in ((0,), (1,), (0, 1)):
            targets = [state for state in range(len(system)) if groups[state] in chosen]
            allowed = [state for state in range(len(system)) if groups[state] != 2]
            few_targets, few_allowed = [[number for number, block in enumerate(found) if block[0] in states]
                                        for states in (targets, allowed)]
            for most in (True, False):
                self.assert_spread(found, best_chances(system, allowed, targets, most)[0],
                                   best_chances(small, few_allowed, few_targets, most)[0])
                self.assert_spread(found, best_costs(system, targets, most)[0],
                                   best_costs(small, few_targets, most)[0])
                self.assert_spread(found, best_averages(system, most)[0], best_averages(small, most)[0])
                if search:
                    self.assert_searched(system, small, found, (allowed, targets), (few_allowed, few_targets), most)

    def assert_spread(self, found, values, few):
        """Each state has the value of its block."""
        for block, value in zip(found, few):
            self.assertEqual([values[state] for state in block], [value] * len(block))

    def assert_searched(self, system, small, found, wish, few_wish, most):
        """The values of the quotient are the best ones over all policies of the whole system."""
        self.assert_spread(found, [pair(value) for value in best_over_policies(system, *wish, most)],
                           best_chances(small, *few_wish, most)[0])
        self.assert_spread(found, [pair(value) for value in best_costs_over_policies(system, wish[1])[most]],
                           best_costs(small, few_wish[1], most)[0])
        self.assert_spread(found, [pair(value) for value in best_averages_over_policies(system)[most]],
                           best_averages(small, most)[0])

    def test_small_systems(self):
        random = Random(84)
        together = 0
        for _ in range(12):
            system, origin = copied(random, random_system(random, 4, 2, 2, 3, 3))
            groups = [state % 3 for state in origin]
            together += len(system) - len(blocks(system, groups))
            self.assert_same(system, groups, True)
        self.assertGreaterEqual(together, 12)

    def test_systems_of_up_to_20_states(self):
        random = Random(85)
        for _ in range(12):
            system = random_system(random, 8, 4, 3, 3, 5)
            origin = list(range(8))
            while len(system) < 20 and max(weight for choices in system for _, ends in choices
                                           for _, weight in ends) < 400:
                if max(len(ends) for choices in system for _, ends in choices) > 5:
                    break
                system, more = copied(random, system)
                origin = [origin[state] for state in more]
            self.assertIsNone(fault(system))
            groups = [state % 3 for state in origin]
            self.assertLessEqual(len(blocks(system, groups)), 8)
            self.assert_same(system, groups, False)


if __name__ == "__main__":
    unittest.main()
