"""The whole promise over all modules, the interface, and the examples of README.md."""

import doctest
import importlib
import inspect
import unittest
from copy import deepcopy
from fractions import Fraction
from pathlib import Path
from random import Random

from bestodds.alike import blocks, quotient
from bestodds.averages import best_averages, judge_averages
from bestodds.bench import Bench
from bestodds.chains import policy_averages, policy_chances, policy_costs
from bestodds.chances import best_chances
from bestodds.costs import best_costs, judge_costs
from bestodds.judging import judge_chances
from bestodds.notation import format_system, parse_system
from bestodds.parsing import read_sentence
from bestodds.parts import closed_parts
from bestodds.ratios import format_ratio
from bestodds.sentences import is_valid, states_where
from bestodds.sure import attainable, avoidable, certain, possible
from bestodds.systems import fault, moves
from bestodds.within import bounded_chances
from search import (best_averages_over_policies, best_costs_over_policies, best_over_policies, full_system, pair,
                    random_system, some_states)

README = Path(__file__).resolve().parent.parent / "README.md"

FUNCTIONS = {
    "ratios": {"ratio": "n d", "plus": "a b", "minus": "a b", "times": "a b", "over": "a b", "is_less": "a b",
               "format_ratio": "a", "parse_ratio": "text"},
    "systems": {"fault": "system", "moves": "system state choice"},
    "notation": {"format_system": "system", "parse_system": "text"},
    "sure": {name: "system allowed targets" for name in ("possible", "avoidable", "attainable", "certain")},
    "parts": {"closed_parts": "system"},
    "linear": {"solve": "rows right"},
    "chains": {"policy_chances": "system policy allowed targets", "policy_costs": "system policy targets",
               "policy_averages": "system policy"},
    "chances": {"best_chances": "system allowed targets most"},
    "judging": {"judge_chances": "system allowed targets most certificate"},
    "costs": {"best_costs": "system targets most", "judge_costs": "system targets most certificate"},
    "within": {"bounded_chances": "system allowed targets steps most"},
    "averages": {"best_averages": "system most", "judge_averages": "system most certificate"},
    "sentences": {"is_valid": "system sentence", "states_where": "system sentence"},
    "parsing": {"read_sentence": "system text"},
    "alike": {"blocks": "system groups", "quotient": "system groups"},
}

METHODS = {"add_choice": "state cost ends", "set_choice": "state number cost ends", "remove_choice": "state number",
           "undo": "", "redo": "", "system": "", "changes": "", "undone": "", "solved": "",
           "keep": "name allowed targets", "names": "", "chances": "name most"}


class InterfaceTest(unittest.TestCase):

    def test_functions(self):
        for module, functions in FUNCTIONS.items():
            held = importlib.import_module(f"bestodds.{module}")
            for name, arguments in functions.items():
                with self.subTest(name):
                    asked = getattr(held, name)
                    self.assertEqual(asked.__module__, held.__name__)
                    self.assertEqual(list(inspect.signature(asked).parameters), arguments.split())

    def test_the_bench(self):
        self.assertEqual(list(inspect.signature(Bench).parameters), ["system"])
        for name, arguments in METHODS.items():
            with self.subTest(name):
                self.assertEqual(list(inspect.signature(vars(Bench)[name]).parameters), ["self", *arguments.split()])

    def test_the_examples_of_the_readme(self):
        # The fences around the examples would count as lines of what is expected.
        text = README.read_text(encoding="ascii").replace("```", "")
        examples = doctest.DocTestParser().get_doctest(text, {}, "README.md", str(README), 0)
        failed, tried = doctest.DocTestRunner().run(examples)
        self.assertEqual(failed, 0)
        self.assertGreater(tried, 40)


class PromiseTest(unittest.TestCase):

    def test_what_is_returned_is_best_and_accepted(self):
        random = Random(100)
        for states, many, ends in [(2, 3, 2), (3, 3, 2), (4, 2, 3), (5, 2, 2)] * 12:
            system = parse_system(format_system(random_system(random, states, many, ends, 3, 3)))
            allowed, targets = some_states(random, states), some_states(random, states)[:2]
            for most in (True, False):
                with self.subTest(system=system, allowed=allowed, targets=targets, most=most):
                    self.assert_chances(system, allowed, targets, most)
                    self.assert_costs(system, targets, most)
                    self.assert_averages(system, most)

    def assert_chances(self, system, allowed, targets, most):
        certificate = best_chances(system, allowed, targets, most)
        values = best_over_policies(system, allowed, targets, most)
        self.assertEqual(list(certificate[0]), [pair(value) for value in values])
        self.assertEqual(policy_chances(system, certificate[1], allowed, targets), list(certificate[0]))
        self.assertIs(judge_chances(system, allowed, targets, most, certificate), True)
        sure = ((possible, lambda value: value > 0), (attainable, lambda value: value == 1)) if most else (
            (avoidable, lambda value: value == 0), (certain, lambda value: value == 1))
        for ask, holds in sure:
            self.assertEqual(ask(system, allowed, targets),
                             [state for state, value in enumerate(values) if holds(value)])
        bench = Bench(system)
        bench.keep("wish", allowed, targets)
        self.assertEqual(bench.chances("wish", most), list(certificate[0]))
        self.assert_sentence(system, allowed, targets, most, values)

    def assert_sentence(self, system, allowed, targets, most, values):
        """The written sentence about each chance holds just in the states that have it."""
        sets = " ".join(" ".join(["in", *map(str, sorted(states)), ";"]) for states in (allowed, targets))
        word = "most" if most else "least"
        for value in set(values):
            x = format_ratio(pair(value))
            text = f"( {word} >= {x} until {sets} and {word} <= {x} until {sets} )"
            sentence = read_sentence(system, text)
            self.assertIs(is_valid(system, sentence), True)
            self.assertEqual(states_where(system, sentence),
                             [state for state, here in enumerate(values) if here == value])

    def assert_costs(self, system, targets, most):
        certificate = best_costs(system, targets, most)
        costs = best_costs_over_policies(system, targets)[most]
        self.assertEqual(list(certificate[0]), [value if value is None else pair(value) for value in costs])
        held = policy_costs(system, certificate[1], targets)
        for cost, here in zip(certificate[0], held):
            self.assertIn(cost, (None, here))
        self.assertIs(judge_costs(system, targets, most, certificate), True)

    def assert_averages(self, system, most):
        certificate = best_averages(system, most)
        self.assertEqual(list(certificate[0]), [pair(gain) for gain in best_averages_over_policies(system)[most]])
        self.assertEqual(policy_averages(system, certificate[2]), list(certificate[0]))
        self.assertIs(judge_averages(system, most, certificate), True)

    def test_costs_as_numbers_of_choices(self):
        # With a cost of 1 for each choice, the cost in the long run is 1.
        random = Random(101)
        for _ in range(20):
            system = tuple(tuple((1, ends) for _, ends in choices) for choices in random_system(random, 7, 3, 3))
            for most in (True, False):
                self.assertEqual(best_averages(system, most)[0], ((1, 1),) * 7)

    def test_the_greatest_is_not_below_the_least(self):
        random = Random(102)
        for _ in range(12):
            system = random_system(random, 12, 4, 3, 9, 5)
            allowed, targets = list(range(1, 12)), [0, 5]
            for ask in (lambda most: best_chances(system, allowed, targets, most)[0],
                        lambda most: best_averages(system, most)[0],
                        lambda most: bounded_chances(system, allowed, targets, 5, most)[0]):
                for high, low in zip(ask(True), ask(False)):
                    self.assertGreaterEqual(Fraction(*high), Fraction(*low))
            for high, low in zip(best_costs(system, targets, True)[0], best_costs(system, targets, False)[0]):
                if high is not None:
                    self.assertGreaterEqual(Fraction(*high), Fraction(*low))

    def test_closed_parts_have_one_gain(self):
        random = Random(103)
        for _ in range(20):
            system = random_system(random, 10, 3, 2, 5, 3)
            for most in (True, False):
                gains = best_averages(system, most)[0]
                for part in closed_parts(system):
                    self.assertEqual(len({gains[state] for state, _ in part}), 1)

    def test_no_function_modifies_its_arguments(self):
        random = Random(104)
        system = full_system(random, 9)
        allowed, targets, groups = [5, 1, 3, 2], [4, 0], [0, 1, 0, 1, 0, 1, 0, 1, 1]
        sentence = (("in", (1, 2)), ("in", (0,)), ("until", True, True, (1, 2), 0, 1))
        arguments = (system, allowed, targets, groups, sentence)
        before = deepcopy(arguments)
        for most in (True, False):
            judge_chances(system, allowed, targets, most, best_chances(system, allowed, targets, most))
            judge_costs(system, targets, most, best_costs(system, targets, most))
            judge_averages(system, most, best_averages(system, most))
            bounded_chances(system, allowed, targets, 3, most)
        is_valid(system, sentence)
        states_where(system, sentence)
        blocks(system, groups)
        quotient(system, groups)
        moves(system, 0, 0)
        fault(system)
        bench = Bench(system)
        bench.keep("wish", allowed, targets)
        bench.set_choice(0, 0, 5, ((0, 1),))
        bench.chances("wish", True)
        self.assertEqual(arguments, before)


if __name__ == "__main__":
    unittest.main()
