"""Sentences (points 29 to 32): which ones are valid, and where they hold."""

import unittest
from copy import deepcopy
from fractions import Fraction
from itertools import product
from random import Random

from bestodds import sentences
from bestodds.sentences import is_valid, states_where
from search import backwards, best_over_policies, mean_over, pair, random_system, some_states, subsets

HALF, THIRD, ZERO, ONE = (1, 2), (1, 3), (0, 1), (1, 1)


def go(*ends):
    """A choice that goes to each of these ends with the same chance."""
    return (0, tuple((end, 1) for end in ends))


def chances_by_words(system, line, found):
    """The chances that a line is about, worked out from all policies or step by step."""
    states = range(len(system))
    if line[0] == "next":
        inside = [Fraction(state in found[line[4]]) for state in states]
        means = [[mean_over(system, state, number, inside) for number in range(len(system[state]))]
                 for state in states]
        return [max(line_of) if line[1] else min(line_of) for line_of in means]
    allowed, targets = found[line[4]], found[line[5]]
    if line[0] == "until":
        return best_over_policies(system, allowed, targets, line[1])
    return backwards(system, allowed, targets, line[6], line[1])[0]


def states_by_words(system, sentence):
    """The states in which each line holds, by the words of points 29 and 30."""
    found = []
    for line in sentence:
        states = set(range(len(system)))
        if line[0] == "in":
            holds = set(line[1])
        elif line[0] == "not":
            holds = states - found[line[1]]
        elif line[0] == "and":
            holds = found[line[1]] & found[line[2]]
        else:
            x = Fraction(*line[3])
            holds = {state for state, chance in enumerate(chances_by_words(system, line, found))
                     if (chance >= x if line[2] else chance <= x)}
        found.append(holds)
    return found


class ValidTest(unittest.TestCase):

    system = ((go(1),), (go(2),), (go(0),))

    def valid(self, expected, *lines):
        with self.subTest(lines=lines):
            self.assertIs(is_valid(self.system, lines), expected)

    def behind(self, expected, *line):
        """Whether a line is valid as line 2."""
        self.valid(expected, ("in", (0,)), ("in", ()), line)

    def test_everything_is_defined_in_the_file(self):
        for name in ("is_valid", "states_where"):
            self.assertEqual(getattr(sentences, name).__module__, "bestodds.sentences")

    def test_a_valid_line_of_each_kind(self):
        self.valid(True, ("in", (0, 2)))
        for line in (("in", ()), ("in", (0, 1, 2)), ("not", 0), ("not", 1), ("and", 0, 1), ("and", 1, 1)):
            self.behind(True, *line)
        for most, at_least, x in product((True, False), (True, False), (ZERO, ONE, HALF, (999, 1000))):
            self.behind(True, "next", most, at_least, x, 1)
            self.behind(True, "until", most, at_least, x, 0, 1)
            self.behind(True, "until", most, at_least, x, 1, 1)
            for n in (0, 1, 29, 30):
                self.behind(True, "within", most, at_least, x, 1, 0, n)

    def test_states(self):
        for states in ((3,), (-1,), (0, 3), (-1, 0), (0, 0), (1, 0), (0, 2, 1), (0, 1, 1), (2, 2), (10 ** 30,)):
            self.behind(False, "in", states)
            self.valid(False, ("in", states))

    def test_numbers_of_lines(self):
        for number in (2, 3, 40, -1, -2, 10 ** 30):
            self.behind(False, "not", number)
            for f, g in ((number, 0), (0, number)):
                self.behind(False, "and", f, g)
                self.behind(False, "until", True, True, HALF, f, g)
                self.behind(False, "within", True, True, HALF, f, g, 3)
            self.behind(False, "next", True, True, HALF, number)
        for line in (("not", 0), ("and", 0, 0), ("next", True, True, HALF, 0), ("until", True, True, HALF, 0, 0),
                     ("within", True, True, HALF, 0, 0, 0)):
            self.valid(False, line)
            self.valid(True, ("in", ()), line)
            self.valid(False, line, ("in", ()))

    def test_fractions(self):
        for x in ((-1, 2), (-1, 1), (3, 2), (2, 1), (1001, 1000), (2, 4), (0, 2), (2, 2), (1, 0), (0, 0), (0, -1),
                  (1, -2), (-1, -2), (-1, -1)):
            self.behind(False, "next", True, True, x, 0)
            self.behind(False, "until", False, True, x, 0, 1)
            self.behind(False, "within", True, False, x, 0, 1, 3)

    def test_numbers_of_steps(self):
        for n in (-1, 31, 32, -30, 10 ** 30):
            self.behind(False, "within", True, True, HALF, 0, 1, n)

    def test_unknown_names(self):
        for name in ("", "or", "In", "in ", "then", "UNTIL", "nexts", "with", "ni"):
            for members in ((), ((0,),), (0,), (0, 1), (True, True, HALF, 0), (True, True, HALF, 0, 1),
                            (True, True, HALF, 0, 1, 3)):
                self.behind(False, name, *members)

    def test_members_too_few_and_too_many(self):
        for line in (("in", (0,)), ("not", 0), ("and", 0, 1), ("next", True, True, HALF, 0),
                     ("until", True, True, HALF, 0, 1), ("within", True, True, HALF, 0, 1, 3)):
            self.behind(True, *line)
            for length in range(1, len(line)):
                self.behind(False, *line[:length])
            for extra in ((line[-1],), (line[-1], line[-1])):
                self.behind(False, *line, *extra)

    def test_a_line_that_is_not_the_last_one(self):
        self.valid(False, ("in", (3,)), ("in", (0,)))
        self.valid(False, ("in", (0,)), ("not", 1), ("in", (0,)))
        self.valid(False, ("in", (0,)), ("nothing",), ("in", (0,)))

    def test_numbers_of_all_lines(self):
        self.valid(False)
        self.valid(True, *[("in", (0,))] * 40)
        self.valid(False, *[("in", (0,))] * 41)
        self.valid(True, ("in", (0,)), *[("not", number) for number in range(39)])
        self.valid(False, ("in", (0,)), *[("not", number) for number in range(40)])

    def test_states_of_the_system(self):
        for many in (1, 5, 20):
            system = ((go(0),),) * many
            self.assertIs(is_valid(system, (("in", (many - 1,)),)), True)
            self.assertIs(is_valid(system, (("in", (many,)),)), False)
            self.assertIs(is_valid(system, (("in", tuple(range(many))),)), True)

    def test_arguments_are_as_before(self):
        sentence = (("in", (0, 1)), ("not", 0))
        before = deepcopy((self.system, sentence))
        is_valid(self.system, sentence)
        self.assertEqual((self.system, sentence), before)


class WhereTest(unittest.TestCase):

    # From 0 one chooses between a draw of 1 and 2 and a draw of 1, 2 and 3; the others stay.
    draws = ((go(1, 2), go(1, 2, 3)), (go(1),), (go(2),), (go(3),))

    def where(self, expected, system, *sentence):
        with self.subTest(system=system, sentence=sentence):
            self.assertIs(is_valid(system, sentence), True)
            found = states_where(system, sentence)
            self.assertIs(type(found), list)
            self.assertEqual(found, expected)
            self.assertEqual(sorted(states_by_words(system, sentence)[-1]), expected)

    def test_states(self):
        self.where([0, 2], self.draws, ("in", (0, 2)))
        self.where([], self.draws, ("in", ()))
        self.where([0, 1, 2, 3], self.draws, ("in", (0, 1, 2, 3)))

    def test_not(self):
        self.where([1, 3], self.draws, ("in", (0, 2)), ("not", 0))
        self.where([0, 1, 2, 3], self.draws, ("in", ()), ("not", 0))
        self.where([], self.draws, ("in", (0, 1, 2, 3)), ("not", 0))

    def test_and(self):
        lines = (("in", (0, 1, 2)), ("in", (1, 2, 3)), ("in", (3,)))
        self.where([1, 2], self.draws, *lines, ("and", 0, 1))
        self.where([], self.draws, *lines, ("and", 2, 0))
        self.where([3], self.draws, *lines, ("and", 1, 2))
        self.where([3], self.draws, *lines, ("and", 2, 2))

    def test_the_last_line_counts(self):
        self.where([1], self.draws, ("in", (0, 2)), ("not", 0), ("in", (1,)))

    def test_next(self):
        for x, most, at_least, expected in (
                (HALF, True, True, [0, 1]), (HALF, True, False, [0, 2, 3]),
                (THIRD, False, True, [0, 1]), (THIRD, False, False, [0, 2, 3]),
                ((51, 100), True, True, [1]), ((49, 100), True, False, [2, 3]),
                ((34, 100), False, True, [1]), ((33, 100), False, False, [2, 3]),
                (ZERO, True, True, [0, 1, 2, 3]), (ZERO, False, False, [2, 3]),
                (ONE, True, True, [1]), (ONE, False, False, [0, 1, 2, 3])):
            x = pair(Fraction(*x))
            self.where(expected, self.draws, ("in", (1,)), ("next", most, at_least, x, 0))

    def test_the_next_state_is_looked_at_and_not_this_one(self):
        self.where([1], ((go(1),), (go(0),)), ("in", (0,)), ("next", True, True, ONE, 0))

    def test_until(self):
        lines = (("in", (0,)), ("in", (1,)))
        for x, most, at_least, expected in (
                (HALF, True, True, [0, 1]), (HALF, True, False, [0, 2, 3]),
                (THIRD, False, True, [0, 1]), (THIRD, False, False, [0, 2, 3]),
                ((51, 100), True, True, [1]), ((49, 100), True, False, [2, 3]),
                (ZERO, False, False, [2, 3]), (ONE, True, True, [1])):
            x = pair(Fraction(*x))
            self.where(expected, self.draws, *lines, ("until", most, at_least, x, 0, 1))
        # The first one is the one of the allowed states.
        self.where([0], self.draws, *lines, ("until", True, True, ONE, 1, 0))

    def test_until_takes_any_number_of_steps(self):
        system = ((go(0, 1), go(0)), (go(1, 2),), (go(2),))
        lines = (("in", (0, 1)), ("in", (2,)))
        self.where([0, 1, 2], system, *lines, ("until", True, True, ONE, 0, 1))
        self.where([1, 2], system, *lines, ("until", False, True, ONE, 0, 1))
        self.where([0], system, *lines, ("until", False, False, ZERO, 0, 1))

    def test_within(self):
        system = ((go(0, 1),), (go(1),))
        lines = (("in", (0,)), ("in", (1,)))
        for n in (0, 1, 5, 30):
            x = (2 ** n - 1, 2 ** n)
            for most in (True, False):
                self.where([0, 1], system, *lines, ("within", most, True, x, 0, 1, n))
                self.where([0], system, *lines, ("within", most, False, x, 0, 1, n))
                more = pair(Fraction(*x) + Fraction(1, 2 ** 31))
                self.where([1], system, *lines, ("within", most, True, more, 0, 1, n))

    def test_within_for_the_greatest_and_the_least_chance(self):
        # The bold choice of 0 is the one for a single step.
        system = ((go(1), go(2, 3)), (go(2),), (go(2),), (go(3),))
        lines = (("in", (0, 1)), ("in", (2,)))
        for n, most, at_least, x, expected in (
                (0, True, True, HALF, [2]), (1, True, True, HALF, [0, 1, 2]), (1, True, True, (51, 100), [1, 2]),
                (2, True, True, ONE, [0, 1, 2]), (1, False, False, ZERO, [0, 3]), (2, False, False, HALF, [0, 3]),
                (2, False, False, ZERO, [3]), (2, False, True, (51, 100), [1, 2])):
            self.where(expected, system, *lines, ("within", most, at_least, x, 0, 1, n))

    def test_allowed_states_are_those_of_the_sentence(self):
        system = ((go(1),), (go(2),), (go(2),))
        self.where([1, 2], system, ("in", (1,)), ("in", (2,)), ("until", True, True, ONE, 0, 1))
        self.where([1, 2], system, ("in", (1,)), ("in", (2,)), ("within", True, True, ONE, 0, 1, 9))
        self.where([2], system, ("in", ()), ("in", (2,)), ("until", False, True, ONE, 0, 1))
        self.where([], system, ("in", (0, 1, 2)), ("in", ()), ("until", True, True, (1, 10 ** 30), 0, 1))

    def test_chances_in_chances(self):
        system = ((go(1, 2),), (go(3),), (go(2),), (go(3),))
        lines = (("in", (3,)), ("in", (0, 1, 2, 3)), ("until", False, True, ONE, 1, 0),
                 ("next", True, True, HALF, 2), ("not", 3), ("within", True, True, HALF, 1, 4, 1),
                 ("and", 3, 5))
        for length, expected in enumerate(([3], [0, 1, 2, 3], [1, 3], [0, 1, 3], [2], [0, 2], [0])):
            self.where(expected, system, *lines[:length + 1])

    def test_each_chance_as_x(self):
        """At a chance itself both at least and at most hold, a little beside only one."""
        random = Random(60)
        for _ in range(25):
            system = random_system(random, 4, 3, 3, 5, 3)
            lines = (("in", tuple(sorted(some_states(random, 4)))), ("in", (random.randrange(4),)))
            for most, name in product((True, False), ("next", "until", "within")):
                tail = {"next": (1,), "until": (0, 1), "within": (0, 1, random.randint(0, 5))}[name]
                chances = chances_by_words(system, (name, most, True, ONE, *tail), [lines[0][1], lines[1][1]])
                for value in chances:
                    for by, at_least in product((-1, 0, 1), (True, False)):
                        x = value + Fraction(by, 10 ** 9)
                        if 0 <= x <= 1:
                            expected = [state for state, chance in enumerate(chances)
                                        if (chance >= x if at_least else chance <= x)]
                            self.where(expected, system, *lines, (name, most, at_least, pair(x), *tail))

    def test_many_sentences(self):
        random = Random(61)
        seen = set()
        for _ in range(60):
            system = random_system(random, 4, 2, 3, 5, 3)
            sentence = random_sentence(random, 4, 12)
            self.assertIs(is_valid(system, sentence), True)
            for length in range(1, 13):
                expected = sorted(states_by_words(system, sentence)[length - 1])
                self.assertEqual(states_where(system, sentence[:length]), expected)
                seen.add(tuple(expected))
        self.assertEqual(len(seen), len(subsets(4)))

    def test_forty_lines_on_twenty_states(self):
        random = Random(62)
        system = random_system(random, 20, 6, 6, 5, 1000)
        sentence = random_sentence(random, 20, 40)
        self.assertIs(is_valid(system, sentence), True)
        found = states_where(system, sentence)
        self.assertEqual(found, sorted(set(found)))

    def test_arguments_are_as_before_and_lists_are_new(self):
        sentence = (("in", (0, 1)), ("in", (3, )), ("until", True, True, HALF, 0, 1))
        before = deepcopy((self.draws, sentence))
        first = states_where(self.draws, sentence)
        kept = list(first)
        first.append(9)
        self.assertEqual(states_where(self.draws, sentence), kept)
        self.assertEqual((self.draws, sentence), before)


def random_sentence(random, states, many):
    """A sentence of so many lines about a system of so many states."""
    lines = [("in", tuple(sorted(some_states(random, states))))]
    while len(lines) < many:
        f, g = random.randrange(len(lines)), random.randrange(len(lines))
        d = random.randint(1, 6)
        about = (random.random() < 0.5, random.random() < 0.5, pair(Fraction(random.randint(0, d), d)))
        lines.append(random.choice([
            ("in", tuple(sorted(some_states(random, states)))), ("not", f), ("and", f, g), ("next", *about, f),
            ("until", *about, f, g), ("within", *about, f, g, random.randint(0, 6))]))
    return tuple(lines)


if __name__ == "__main__":
    unittest.main()
