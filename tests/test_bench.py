"""The bench (points 38 to 40)."""

import unittest
from copy import deepcopy
from fractions import Fraction
from random import Random

from bestodds.bench import Bench
from bestodds.chances import best_chances
from bestodds.errors import (BenchError, InvalidName, InvalidSystem, NoSuchChoice, NoSuchState, TooManyChanges,
                             TooManyWishes, UnknownName)
from bestodds.systems import fault
from search import best_over_policies, pair, random_choice, random_system, some_states

METHODS = ("add_choice", "set_choice", "remove_choice", "undo", "redo", "system", "changes", "undone", "solved",
           "keep", "names", "chances")


def go(*ends, cost=0):
    """A choice that goes to each of these ends with the same chance."""
    return (cost, tuple((end, 1) for end in ends))


class BenchTest(unittest.TestCase):

    # 0 and 1 pass to the target 2 or to the trap 3.
    system = ((go(1), go(2, 3)), (go(2, 3), go(0)), (go(2),), (go(3),))

    def setUp(self):
        self.bench = Bench(self.system)

    def assert_told(self, system=None, changes=0, undone=0, solved=0):
        self.assertEqual(self.bench.system(), self.system if system is None else system)
        self.assertEqual((self.bench.changes(), self.bench.undone(), self.bench.solved()),
                         (changes, undone, solved))

    def assert_raises(self, error, field, ask, *arguments):
        """The call raises the error with this field, and changes nothing."""
        before = self.state()
        with self.subTest(arguments=arguments), self.assertRaises(error) as caught:
            ask(*arguments)
        self.assertIs(type(caught.exception), error)
        if field is not None:
            self.assertEqual(list(vars(caught.exception).values()), [field])
        self.assertEqual(self.state(), before)

    def state(self):
        return (self.bench.system(), self.bench.changes(), self.bench.undone(), self.bench.solved(),
                self.bench.names())


class MakingTest(BenchTest):

    def test_each_method_stands_in_the_class(self):
        self.assertEqual(Bench.__module__, "bestodds.bench")
        for name in METHODS:
            self.assertIn(name, vars(Bench))

    def test_a_new_bench(self):
        self.assert_told()
        self.assertEqual(self.bench.names(), [])
        self.assertIs(self.bench.undo(), False)
        self.assertIs(self.bench.redo(), False)
        self.assert_told()

    def test_invalid_systems(self):
        for system in ((), (go(0),) * 0, ((go(0),),) * 21, ((go(0),), ()), ((go(0), go(1)),), ((go(0, cost=-1),),),
                       ((go(0, cost=1001),),), (((0, ()),),), ((go(0),) * 7,), (((0, ((0, 0),)),),)):
            with self.subTest(system=system), self.assertRaises(InvalidSystem) as caught:
                Bench(system)
            self.assertEqual(caught.exception.fault, fault(system))

    def test_benches_do_not_share_anything(self):
        other = Bench(self.system)
        other.add_choice(0, 1, ((0, 1),))
        other.keep("goal", [0, 1], [2])
        other.chances("goal", True)
        self.assert_told()
        self.assertEqual(self.bench.names(), [])


class ChangesTest(BenchTest):

    def test_add_choice(self):
        self.assertIsNone(self.bench.add_choice(2, 7, ((0, 3), (3, 1))))
        self.assert_told(self.system[:2] + ((go(2), (7, ((0, 3), (3, 1)))),) + self.system[3:], changes=1)
        self.bench.add_choice(0, 1, ((3, 9),))
        self.assertEqual(self.bench.system()[0], self.system[0] + ((1, ((3, 9),)),))

    def test_set_choice(self):
        self.assertIsNone(self.bench.set_choice(0, 1, 1000, ((0, 1000),)))
        self.assert_told(((go(1), (1000, ((0, 1000),))),) + self.system[1:], changes=1)
        self.bench.set_choice(0, 0, 5, ((1, 1), (2, 2)))
        self.assertEqual(self.bench.system()[0], ((5, ((1, 1), (2, 2))), (1000, ((0, 1000),))))

    def test_remove_choice(self):
        self.assertIsNone(self.bench.remove_choice(1, 0))
        self.assert_told((self.system[0], (go(0),)) + self.system[2:], changes=1)
        self.bench.remove_choice(0, 1)
        self.assert_told(((go(1),), (go(0),)) + self.system[2:], changes=2)

    def test_the_first_and_the_last_state(self):
        self.bench.add_choice(3, 2, ((0, 1),))
        self.bench.set_choice(3, 0, 4, ((1, 1),))
        self.bench.set_choice(0, 0, 4, ((3, 1),))
        self.assert_told(((go(3, cost=4), go(2, 3)), *self.system[1:3], (go(1, cost=4), go(0, cost=2))), changes=3)

    def test_a_change_counts_also_if_the_system_stays_the_same(self):
        self.bench.set_choice(0, 1, *go(2, 3))
        self.assert_told(changes=1)
        self.assertIs(self.bench.undo(), True)
        self.assert_told(undone=1)
        self.bench.set_choice(3, 0, *go(3))
        self.assert_told(changes=1)

    def test_no_such_state(self):
        for state in (-1, 4, 5, -4, 10 ** 30):
            self.assert_raises(NoSuchState, state, self.bench.add_choice, state, 0, ((0, 1),))
            self.assert_raises(NoSuchState, state, self.bench.set_choice, state, 0, 0, ((0, 1),))
            self.assert_raises(NoSuchState, state, self.bench.remove_choice, state, 0)
            # All else is wrong, too.
            self.assert_raises(NoSuchState, state, self.bench.add_choice, state, -1, ())
            self.assert_raises(NoSuchState, state, self.bench.set_choice, state, 9, -1, ())
            self.assert_raises(NoSuchState, state, self.bench.remove_choice, state, 9)

    def test_no_such_choice(self):
        for number in (-1, 2, 3, -2, 10 ** 30):
            self.assert_raises(NoSuchChoice, number, self.bench.set_choice, 0, number, 0, ((0, 1),))
            self.assert_raises(NoSuchChoice, number, self.bench.remove_choice, 0, number)
            self.assert_raises(NoSuchChoice, number, self.bench.set_choice, 0, number, -1, ())
        self.assert_raises(NoSuchChoice, 1, self.bench.remove_choice, 2, 1)
        self.assert_raises(NoSuchChoice, 1, self.bench.set_choice, 2, 1, 0, ((0, 1),))

    def test_invalid_costs_and_ends(self):
        for cost in (-1, 1001, 10 ** 30):
            self.assert_raises(InvalidSystem, ("cost", 0, 2), self.bench.add_choice, 0, cost, ((0, 1),))
            self.assert_raises(InvalidSystem, ("cost", 1, 0), self.bench.set_choice, 1, 0, cost, ((0, 1),))
            self.assert_raises(InvalidSystem, ("cost", 1, 1), self.bench.set_choice, 1, 1, cost, ())
        for ends in ((), ((4, 1),), ((-1, 1),), ((0, 0),), ((0, 1001),), ((1, 1), (0, 1)), ((1, 1), (1, 1)),
                     ((0, 1), (1, 1), (2, 1), (3, 1), (4, 1))):
            self.assert_raises(InvalidSystem, ("ends", 0, 2), self.bench.add_choice, 0, 0, ends)
            self.assert_raises(InvalidSystem, ("ends", 1, 0), self.bench.set_choice, 1, 0, 0, ends)

    def test_too_many_and_too_few_choices(self):
        self.assert_raises(InvalidSystem, ("choices", 2), self.bench.remove_choice, 2, 0)
        for _ in range(5):
            self.bench.add_choice(3, 0, ((0, 1),))
        self.assertEqual(len(self.bench.system()[3]), 6)
        self.assert_raises(InvalidSystem, ("choices", 3), self.bench.add_choice, 3, 0, ((0, 1),))
        self.assert_raises(InvalidSystem, ("choices", 3), self.bench.add_choice, 3, -1, ())

    def test_100_changes_and_one_more(self):
        for number in range(100):
            self.assertEqual(self.bench.changes(), number)
            self.bench.set_choice(number % 2, 0, number, ((3, 1),))
        self.assertEqual(self.bench.changes(), 100)
        self.assert_raises(TooManyChanges, None, self.bench.add_choice, 0, 0, ((0, 1),))
        self.assert_raises(TooManyChanges, None, self.bench.set_choice, 0, 0, 0, ((0, 1),))
        self.assert_raises(TooManyChanges, None, self.bench.set_choice, 0, 0, 98, ((3, 1),))
        self.assert_raises(TooManyChanges, None, self.bench.remove_choice, 0, 0)
        # All other errors come before.
        self.assert_raises(NoSuchState, 4, self.bench.add_choice, 4, 0, ((0, 1),))
        self.assert_raises(NoSuchChoice, 2, self.bench.remove_choice, 0, 2)
        self.assert_raises(InvalidSystem, ("choices", 2), self.bench.remove_choice, 2, 0)
        self.assert_raises(InvalidSystem, ("cost", 0, 0), self.bench.set_choice, 0, 0, -1, ())
        # An undone change makes room for another one.
        self.assertIs(self.bench.undo(), True)
        self.bench.add_choice(0, 0, ((0, 1),))
        self.assertEqual((self.bench.changes(), self.bench.undone()), (100, 0))
        self.assert_raises(TooManyChanges, None, self.bench.remove_choice, 0, 0)

    def test_all_of_100_changes_can_be_undone_and_redone(self):
        systems = [self.bench.system()]
        for number in range(100):
            self.bench.set_choice(number % 4, 0, number, ((number % 3, 1),))
            systems.append(self.bench.system())
        for number in range(99, -1, -1):
            self.assertIs(self.bench.undo(), True)
            self.assert_told(systems[number], number, 100 - number)
        self.assertIs(self.bench.undo(), False)
        self.assert_told(systems[0], 0, 100)
        for number in range(1, 101):
            self.assertIs(self.bench.redo(), True)
            self.assert_told(systems[number], number, 100 - number)
        self.assertIs(self.bench.redo(), False)
        self.assert_told(systems[100], 100, 0)
        self.assert_raises(TooManyChanges, None, self.bench.remove_choice, 0, 0)

    def test_undo_and_redo_of_each_kind(self):
        for ask, arguments in ((self.bench.add_choice, (0, 3, ((0, 1),))),
                               (self.bench.set_choice, (1, 1, 3, ((0, 1),))), (self.bench.remove_choice, (1, 0))):
            ask(*arguments)
            after = self.bench.system()
            self.assertNotEqual(after, self.system)
            self.assertIs(self.bench.undo(), True)
            self.assert_told(undone=1)
            self.assertIs(self.bench.redo(), True)
            self.assert_told(after, changes=1)
            self.assertIs(self.bench.redo(), False)
            self.bench.undo()

    def test_a_new_change_discards_what_could_be_redone(self):
        self.bench.add_choice(0, 1, ((0, 1),))
        self.bench.add_choice(0, 2, ((0, 1),))
        self.bench.undo()
        self.bench.undo()
        self.assert_told(undone=2)
        self.bench.add_choice(0, 3, ((0, 1),))
        after = self.bench.system()
        self.assert_told(after, changes=1)
        self.assertIs(self.bench.redo(), False)
        self.assert_told(after, changes=1)
        self.bench.undo()
        self.assert_told(undone=1)

    def test_a_change_that_raises_discards_nothing(self):
        self.bench.add_choice(0, 1, ((0, 1),))
        after = self.bench.system()
        self.bench.undo()
        for error, field, arguments in ((NoSuchState, 9, (9, 0, ((0, 1),))),
                                        (InvalidSystem, ("ends", 0, 2), (0, 0, ()))):
            self.assert_raises(error, field, self.bench.add_choice, *arguments)
        self.assert_raises(NoSuchChoice, 5, self.bench.remove_choice, 0, 5)
        self.assertIs(self.bench.redo(), True)
        self.assert_told(after, changes=1)

    def test_arguments_are_as_before(self):
        ends = ((0, 1), (1, 2))
        before = deepcopy((self.system, ends))
        self.bench.add_choice(0, 1, ends)
        self.bench.set_choice(0, 1, 1, ends)
        self.bench.remove_choice(0, 0)
        self.bench.undo()
        self.assertEqual((self.system, ends), before)


class NamesTest(BenchTest):

    def test_names(self):
        for name in ("a", "z", "goal", "abcdefghijkl", "nopqrstuvwxy"):
            self.assertIsNone(self.bench.keep(name, [0], [1]))
        self.assertEqual(self.bench.names(), ["a", "abcdefghijkl", "goal", "nopqrstuvwxy", "z"])
        self.assertIs(type(self.bench.names()), list)
        self.bench.names().clear()
        self.assertEqual(len(self.bench.names()), 5)

    def test_invalid_names(self):
        for name in ("", "abcdefghijklm", "a" * 1000, "A", "Goal", "goaL", "go al", " goal", "goal ", "goal1", "1", "_",
                     "a-b", "a.b", "go\nal", "goal\n", "\n", "`", "{", "~", "@"):
            self.assert_raises(InvalidName, name, self.bench.keep, name, [0], [1])

    def test_a_ninth_name(self):
        for name in "hgfedcba":
            self.bench.keep(name, [0], [1])
        self.assertEqual(self.bench.names(), list("abcdefgh"))
        self.assert_raises(TooManyWishes, None, self.bench.keep, "i", [0], [1])
        self.assert_raises(TooManyWishes, None, self.bench.keep, "aa", [0], [1])
        # A wrong form is told first.
        self.assert_raises(InvalidName, "I", self.bench.keep, "I", [0], [1])
        self.bench.keep("a", [1], [2])
        self.assertEqual(self.bench.names(), list("abcdefgh"))
        self.assertEqual(self.bench.chances("a", True), list(best_chances(self.system, [1], [2], True)[0]))

    def test_a_name_that_is_not_kept(self):
        self.bench.keep("goal", [0, 1], [2])
        for name in ("other", "goa", "goals", "", "Goal", "a" * 50):
            for most in (True, False):
                self.assert_raises(UnknownName, name, self.bench.chances, name, most)

    def test_errors_that_only_benches_raise(self):
        for ask, arguments in ((self.bench.keep, ("", [], [])), (self.bench.chances, ("x", True)),
                               (self.bench.remove_choice, (9, 0)), (self.bench.remove_choice, (0, 9))):
            with self.assertRaises(BenchError):
                ask(*arguments)


class AnswersTest(BenchTest):

    def setUp(self):
        self.bench = Bench(self.system)
        self.bench.keep("goal", [0, 1], [2])

    def assert_chances(self, name, allowed, targets, most, solved):
        """The chances are the best ones, and so many answers have been solved then."""
        found = self.bench.chances(name, most)
        self.assertIs(type(found), list)
        expected = best_over_policies(self.bench.system(), allowed, targets, most)
        self.assertEqual(found, [pair(value) for value in expected])
        self.assertEqual(self.bench.solved(), solved)

    def assert_goal(self, most, solved):
        self.assert_chances("goal", [0, 1], [2], most, solved)

    def test_answers_are_solved_when_they_are_asked_for_and_kept(self):
        self.assertEqual(self.bench.solved(), 0)
        self.assert_goal(True, 1)
        self.assert_goal(True, 1)
        self.assert_goal(False, 2)
        self.assert_goal(False, 2)
        self.assert_goal(True, 2)

    def test_each_name_has_answers_of_its_own(self):
        self.bench.keep("same", [0, 1], [2])
        self.assert_goal(True, 1)
        self.assert_chances("same", [0, 1], [2], True, 2)
        self.assert_chances("same", [0, 1], [2], False, 3)
        self.assert_goal(False, 4)
        self.assert_goal(True, 4)

    def test_lists_that_are_returned_are_new(self):
        first = self.bench.chances("goal", True)
        first.clear()
        self.assert_goal(True, 1)
        self.bench.chances("goal", True)[0] = None
        self.assert_goal(True, 1)

    def test_the_lists_of_a_wish_are_copied(self):
        allowed, targets = [0, 1], [2]
        self.bench.keep("other", allowed, targets)
        allowed.clear()
        targets.append(3)
        self.assert_chances("other", [0, 1], [2], True, 1)
        self.bench.set_choice(0, 1, 0, ((2, 1), (3, 3)))
        self.assert_chances("other", [0, 1], [2], False, 2)
        kept = [[1, 0], [2]]
        self.bench.keep("other", *kept)
        self.bench.chances("other", True)
        self.assertEqual(kept, [[1, 0], [2]])

    def test_a_wish_that_is_kept_anew_has_no_answers(self):
        self.assert_goal(True, 1)
        self.assert_goal(False, 2)
        self.bench.keep("other", [0], [1])
        self.assert_goal(True, 2)
        self.bench.keep("goal", [0, 1], [2])
        self.assert_goal(True, 3)
        self.assert_goal(False, 4)
        self.bench.keep("goal", [1], [3])
        self.assert_chances("goal", [1], [3], True, 5)
        self.assertEqual(self.bench.names(), ["goal", "other"])

    def test_a_wish_that_is_refused_keeps_its_answers(self):
        self.assert_goal(True, 1)
        with self.assertRaises(InvalidName):
            self.bench.keep("Goal", [0], [1])
        for name in "abcdefg":
            self.bench.keep(name, [0], [1])
        with self.assertRaises(TooManyWishes):
            self.bench.keep("h", [0], [1])
        self.assert_goal(True, 1)

    def test_a_change_in_a_target_drops_nothing(self):
        self.bench.keep("both", [0, 1, 2, 3], [2, 3])
        self.assert_goal(True, 1)
        self.assert_goal(False, 2)
        self.assert_chances("both", [0, 1, 2, 3], [2, 3], True, 3)
        self.bench.set_choice(2, 0, 5, ((0, 1), (3, 1)))
        self.assert_goal(True, 3)
        self.assert_goal(False, 3)
        self.assert_chances("both", [0, 1, 2, 3], [2, 3], True, 3)
        self.bench.undo()
        self.bench.redo()
        self.assert_goal(True, 3)
        self.assert_goal(False, 3)

    def test_a_change_in_a_state_that_is_neither_drops_nothing(self):
        self.assert_goal(True, 1)
        self.assert_goal(False, 2)
        self.bench.set_choice(3, 0, 0, ((2, 1),))
        self.bench.add_choice(3, 0, ((0, 1),))
        self.bench.undo()
        self.assert_goal(True, 2)
        self.assert_goal(False, 2)

    def test_a_change_in_an_allowed_state_drops_both_answers(self):
        self.bench = Bench(((go(2, 3),), *self.system[1:]))
        self.bench.keep("goal", [0, 1], [2])
        self.assert_goal(True, 1)
        self.assert_goal(False, 2)
        self.bench.add_choice(0, 0, ((2, 1),))
        self.assert_goal(True, 3)
        self.assert_goal(False, 4)
        self.bench.undo()
        self.assert_goal(False, 5)
        self.assert_goal(True, 6)
        self.bench.redo()
        self.assert_goal(True, 7)
        self.assert_goal(False, 8)

    def test_a_change_that_leaves_the_system_the_same_drops_answers(self):
        self.bench = Bench(((go(2, 3),), *self.system[1:]))
        self.bench.keep("goal", [0, 1], [2])
        self.assert_goal(True, 1)
        self.bench.set_choice(0, 0, *go(2, 3))
        self.assert_goal(True, 2)

    def test_an_answer_of_0_in_the_changed_state_stays(self):
        # From 0 and 1 the target can be avoided by going round.
        self.assert_goal(True, 1)
        self.assert_goal(False, 2)
        self.assertEqual(self.bench.chances("goal", False)[:2], [(0, 1), (0, 1)])
        self.bench.add_choice(0, 0, ((2, 1),))
        self.assert_goal(False, 2)
        self.assert_goal(True, 3)
        self.bench.undo()
        self.assert_goal(False, 3)
        self.assert_goal(True, 4)
        # In 0 the least chance is now above 0 with the new system, and then with the old one.
        self.bench.remove_choice(0, 0)
        self.assert_goal(False, 5)
        self.assertNotEqual(self.bench.chances("goal", False)[0], (0, 1))
        self.assert_goal(True, 6)
        self.bench.undo()
        self.assert_goal(False, 7)
        self.assert_goal(True, 8)

    def test_the_greatest_chance_of_0_in_the_changed_state(self):
        # From 3 the target cannot be reached, whatever is changed between 3 and 4.
        system = ((go(1, 3),), (go(2),), (go(2),), (go(4),), (go(3), go(4)))
        self.bench = Bench(system)
        wish = ([0, 1, 3, 4], [2])
        self.bench.keep("goal", *wish)
        self.assert_chances("goal", *wish, True, 1)
        self.assert_chances("goal", *wish, False, 2)
        self.bench.set_choice(3, 0, 0, ((3, 1), (4, 5)))
        self.bench.remove_choice(4, 1)
        self.bench.undo()
        self.assert_chances("goal", *wish, True, 2)
        self.assert_chances("goal", *wish, False, 2)
        # Now the greatest chance in 4 rises, the least one stays 0.
        self.bench.add_choice(4, 0, ((2, 1),))
        self.assert_chances("goal", *wish, False, 2)
        self.assert_chances("goal", *wish, True, 3)
        self.bench.undo()
        self.assert_chances("goal", *wish, False, 3)
        self.assert_chances("goal", *wish, True, 4)

    def test_the_old_system_counts_also_for_an_answer_that_is_not_asked_between(self):
        # The target can be reached only between the two changes.
        system = ((go(0),), (go(1),))
        self.bench = Bench(system)
        self.bench.keep("goal", [0], [1])
        self.assert_chances("goal", [0], [1], True, 1)
        self.bench.set_choice(0, 0, 0, ((1, 1),))
        self.bench.set_choice(0, 0, 0, ((0, 1),))
        self.assert_chances("goal", [0], [1], True, 2)
        self.bench.undo()
        self.bench.redo()
        self.assert_chances("goal", [0], [1], True, 3)
        self.bench.set_choice(0, 0, 7, ((0, 1),))
        self.assert_chances("goal", [0], [1], True, 3)

    def test_errors_drop_nothing(self):
        self.assert_goal(True, 1)
        self.assert_goal(False, 2)
        for ask, arguments in ((self.bench.add_choice, (0, -1, ())), (self.bench.add_choice, (9, 0, ((0, 1),))),
                               (self.bench.remove_choice, (0, 2)), (self.bench.set_choice, (0, 7, 0, ((0, 1),))),
                               (self.bench.chances, ("other", True)), (self.bench.keep, ("Goal", [], []))):
            with self.assertRaises((BenchError, InvalidSystem)):
                ask(*arguments)
        self.assertIs(self.bench.undo(), False)
        self.assertIs(self.bench.redo(), False)
        self.assert_goal(True, 2)
        self.assert_goal(False, 2)
        for _ in range(100):
            self.bench.set_choice(2, 0, 0, ((2, 1),))
        with self.assertRaises(TooManyChanges):
            self.bench.set_choice(0, 0, 0, ((0, 1),))
        self.assert_goal(True, 2)
        self.assert_goal(False, 2)


class Model:
    """A bench by the words of points 38 to 40, with searches over all policies."""

    def __init__(self, system):
        self.systems = [system]
        self.changed = [None]
        self.at = 0
        self.wishes = {}
        self.solved = 0

    def best(self, system, wish, most):
        return best_over_policies(system, *wish, most)

    def move(self, to):
        """Goes one change back or on."""
        old, new = self.systems[self.at], self.systems[to]
        state = self.changed[max(to, self.at)]
        self.at = to
        for wish, asked in self.wishes.values():
            allowed, targets = wish
            for most in sorted(asked):
                stays = state in targets or state not in allowed or (
                    self.best(old, wish, most)[state] == self.best(new, wish, most)[state] == 0)
                if not stays:
                    asked.discard(most)

    def change(self, state, system):
        self.systems[self.at + 1:] = [system]
        self.changed[self.at + 1:] = [state]
        self.move(self.at + 1)

    def chances(self, name, most):
        wish, asked = self.wishes[name]
        self.solved += most not in asked
        asked.add(most)
        return [pair(Fraction(value)) for value in self.best(self.systems[self.at], wish, most)]


class ModelTest(unittest.TestCase):
    """Many steps of a bench, held against the model after each of them."""

    def changed(self, random, bench):
        """Makes a change; returns the changed state, and the system that there shall be."""
        system = [list(choices) for choices in bench.system()]
        state = random.randrange(len(system))
        cost, ends = random_choice(random, len(system), 2, 3, 2)
        number = random.randrange(len(system[state]))
        if len(system[state]) == 1 and random.random() < 0.5:
            bench.add_choice(state, cost, ends)
            system[state].append((cost, ends))
        elif len(system[state]) > 1 and random.random() < 0.4:
            bench.remove_choice(state, number)
            del system[state][number]
        else:
            bench.set_choice(state, number, cost, ends)
            system[state][number] = (cost, ends)
        return state, tuple(tuple(choices) for choices in system)

    def step(self, random, bench, model):
        what = random.randrange(10)
        if what < 3:
            model.change(*self.changed(random, bench))
        elif what < 5:
            self.assertIs(bench.undo(), model.at > 0)
            if model.at > 0:
                model.move(model.at - 1)
        elif what < 6:
            can = model.at + 1 < len(model.systems)
            self.assertIs(bench.redo(), can)
            if can:
                model.move(model.at + 1)
        elif what < 7 and random.random() < 0.4:
            name = random.choice("abc")
            wish = (some_states(random, 4), some_states(random, 4)[:1])
            bench.keep(name, *wish)
            model.wishes[name] = (wish, set())
        elif model.wishes:
            name, most = random.choice(sorted(model.wishes)), random.random() < 0.5
            self.assertEqual(bench.chances(name, most), model.chances(name, most))

    def test_many_steps(self):
        random = Random(90)
        for _ in range(12):
            system = random_system(random, 4, 2, 2, 3, 2)
            bench, model = Bench(system), Model(system)
            for _ in range(100):
                self.step(random, bench, model)
                self.assertEqual(bench.system(), model.systems[model.at])
                self.assertEqual((bench.changes(), bench.undone()),
                                 (model.at, len(model.systems) - 1 - model.at))
                self.assertEqual(bench.solved(), model.solved)
                self.assertEqual(bench.names(), sorted(model.wishes))

    def test_twenty_states(self):
        random = Random(91)
        bench = Bench(random_system(random, 20, 6, 4, 9, 9))
        allowed, targets = list(range(17)), [0, 18]
        bench.keep("goal", allowed, targets)
        for _ in range(60):
            state = random.randrange(20)
            bench.set_choice(state, 0, *random_choice(random, 20, 2, 9, 9))
            if random.random() < 0.3:
                bench.undo()
            for most in (True, False):
                self.assertEqual(bench.chances("goal", most),
                                 list(best_chances(bench.system(), allowed, targets, most)[0]))


if __name__ == "__main__":
    unittest.main()
