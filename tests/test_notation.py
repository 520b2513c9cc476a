"""Written systems (points 6 and 7)."""

import unittest
from copy import deepcopy
from random import Random

from bestodds import notation
from bestodds.errors import BestoddsError, InvalidLine, InvalidSystem
from bestodds.notation import format_system, parse_system
from search import full_system, random_system

EXAMPLE = (((0, ((0, 1), (1, 2))),), ((5, ((1, 1),)),))
STAY = (0, ((0, 1),))


class FormatTest(unittest.TestCase):

    def test_everything_is_defined_in_the_file(self):
        for name in ("format_system", "parse_system"):
            self.assertEqual(getattr(notation, name).__module__, "bestodds.notation")

    def test_one_state(self):
        self.assertEqual(format_system(((STAY,),)), "state\n0 0:1")

    def test_two_states(self):
        self.assertEqual(format_system(EXAMPLE), "state\n0 0:1 1:2\nstate\n5 1:1")

    def test_several_choices(self):
        system = (((7, ((1, 10),)), (1000, ((0, 1000), (1, 999), (2, 1)))), (STAY,),
                  ((0, ((2, 3),)), (12, ((0, 4), (2, 40)))))
        self.assertEqual(format_system(system), "\n".join([
            "state", "7 1:10", "1000 0:1000 1:999 2:1", "state", "0 0:1",
            "state", "0 2:3", "12 0:4 2:40"]))

    def test_the_system_is_as_before(self):
        system = deepcopy(EXAMPLE)
        format_system(system)
        self.assertEqual(system, EXAMPLE)

    def test_lines_of_a_great_system(self):
        lines = format_system(full_system(Random(1), 20)).split("\n")
        self.assertEqual([at for at, line in enumerate(lines) if line == "state"],
                         list(range(0, 140, 7)))
        self.assertEqual(len(lines), 140)
        for at, line in enumerate(lines):
            if at % 7:
                self.assertRegex(line, r"\A[0-9]+( [0-9]+:[0-9]+){6}\Z")


class ParseTest(unittest.TestCase):

    def assert_same(self, system):
        found = parse_system(format_system(system))
        self.assertEqual(found, system)
        self.assertIs(type(found), tuple)
        for choices in found:
            self.assertIs(type(choices), tuple)
            for choice in choices:
                self.assertIs(type(choice), tuple)
                self.assertEqual([type(part) for part in choice], [int, tuple])
                self.assertEqual({type(pair) for pair in choice[1]}, {tuple})

    def test_a_text(self):
        self.assertEqual(parse_system("state\n0 0:1 1:2\nstate\n5 1:1"), EXAMPLE)

    def test_written_systems_are_read_again(self):
        self.assert_same(EXAMPLE)
        self.assert_same(((STAY,),))
        random = Random(2)
        for states in range(1, 21):
            self.assert_same(random_system(random, states, 6, 6, 1000, 1000))

    def test_great_systems_are_read_again(self):
        random = Random(3)
        for states in (6, 19, 20):
            self.assert_same(full_system(random, states))
        self.assert_same(((((1000, tuple((end, 1000) for end in range(14, 20))),) * 6),) * 20)


class InvalidLineTest(unittest.TestCase):

    def assert_line(self, text, number):
        with self.assertRaises(InvalidLine) as caught:
            parse_system(text)
        self.assertIs(type(caught.exception), InvalidLine)
        self.assertEqual(caught.exception.number, number)
        self.assertIsInstance(caught.exception, BestoddsError)

    def assert_choice(self, line):
        """The line stands for no choice, wherever it is."""
        self.assert_line("state\n" + line, 1)
        self.assert_line("state\n0 0:1\n" + line + "\nstate\n0 1:1", 2)
        self.assert_line("state\n0 0:1\nstate\n" + line + "\n?", 3)

    def test_the_empty_text_is_an_empty_line(self):
        self.assert_line("", 0)

    def test_the_first_line_is_state(self):
        for line in ("0 0:1", "0", "States", "State", "STATE", "stat", "statee", "state:",
                     " state", "state ", "state 0", "state state", "state0"):
            self.assert_line(line, 0)
            self.assert_line(line + "\nstate\n0 0:1", 0)

    def test_later_lines_that_are_nearly_state(self):
        for line in (" state", "state ", "State", "state 0", "state 0:1", "states"):
            self.assert_choice(line)

    def test_empty_lines(self):
        self.assert_line("\nstate\n0 0:1", 0)
        self.assert_line("state\n\n0 0:1", 1)
        self.assert_line("state\n0 0:1\n\nstate\n0 1:1", 2)
        self.assert_line("state\n0 0:1\n", 2)
        self.assert_line("state\n0 0:1\n\n", 2)
        self.assert_line("state\n", 1)
        self.assert_line("\n", 0)

    def test_spaces(self):
        for line in (" ", "  ", " 0 0:1", "0 0:1 ", "0  0:1", "0 0:1  1:1", "0 ", " 0",
                     "0 0: 1", "0 0 :1", "0 0 : 1", "0 0:1,1:1"):
            self.assert_choice(line)

    def test_words_with_another_number_of_colons(self):
        for line in ("0 0", "0 0:1 1", "0 1 1:1", "0 0:1:1", "0 0:1 1:1:", "0 ::", "0 :", "0 0:",
                     "0 :1", "0 0::1", "0:1", "0:1 0:1", ":", "0: 0:1"):
            self.assert_choice(line)

    def test_signs_and_letters(self):
        for line in ("-1 0:1", "+1 0:1", "-0 0:1", "0 -1:1", "0 +0:1", "0 0:-1", "0 0:+1", "x 0:1",
                     "0 x:1", "0 0:x", "0 0:1x", "1.0 0:1", "1e1 0:1", "0 0:1_0", "1_0 0:1", "a",
                     "0 0x1:1", "0 0:1/2", "0 0;1", "0x1 0:1"):
            self.assert_choice(line)

    def test_leading_zeros(self):
        for line in ("00 0:1", "01 0:1", "0 00:1", "0 01:1", "0 0:01", "0 0:001", "0001 0:1"):
            self.assert_choice(line)

    def test_integers_of_five_digits(self):
        for line in ("10000 0:1", "0 10000:1", "0 0:10000", "12345", "0 0:1 1:99999",
                     "0 0:1" + "0" * 5000):
            self.assert_choice(line)

    def test_the_first_line_that_is_not_written_so(self):
        self.assert_line("state\n0 0:1\n0 0:1\nx\ny\n", 3)
        self.assert_line("0 0:1\nx\ny", 0)
        text = format_system(full_system(Random(4), 20))
        lines = text.split("\n")
        for number in (1, 7, 13, 70, 139):
            broken = list(lines)
            broken[number] = "x"
            self.assert_line("\n".join(broken), number)
        self.assert_line(text + "\n", 140)

    def test_lines_come_before_faults(self):
        self.assert_line("state\nstate\n0 0:1\nx", 3)
        self.assert_line("state\n9999 0:1\n0 0:1 ", 2)
        self.assert_line("state\n0 7:1\nstate\n0 1:9999\n", 4)
        self.assert_line("state\n" * 30, 30)


class InvalidSystemTest(unittest.TestCase):

    def assert_fault(self, text, fault):
        with self.assertRaises(InvalidSystem) as caught:
            parse_system(text)
        self.assertIs(type(caught.exception), InvalidSystem)
        self.assertEqual(caught.exception.fault, fault)
        self.assertIsInstance(caught.exception, BestoddsError)

    def test_states_without_choices(self):
        self.assert_fault("state", ("choices", 0))
        self.assert_fault("state\nstate\n0 1:1", ("choices", 0))
        self.assert_fault("state\n0 0:1\nstate", ("choices", 1))
        self.assert_fault("state\n0 0:1\nstate\nstate\n0 2:1", ("choices", 1))

    def test_too_many_choices_and_states(self):
        self.assert_fault("state" + "\n0 0:1" * 7, ("choices", 0))
        self.assert_fault("\n".join(["state\n0 0:1"] * 21), ("states",))
        self.assertEqual(parse_system("\n".join(["state" + "\n0 0:1" * 6] * 20)), ((STAY,) * 6,) * 20)

    def test_costs(self):
        self.assertEqual(parse_system("state\n1000 0:1"), (((1000, ((0, 1),)),),))
        self.assert_fault("state\n1001 0:1", ("cost", 0, 0))
        self.assert_fault("state\n9999 0:1", ("cost", 0, 0))
        self.assert_fault("state\n0 0:1\nstate\n0 1:1\n2000 1:1", ("cost", 1, 1))

    def test_weights(self):
        self.assertEqual(parse_system("state\n0 0:1000"), (((0, ((0, 1000),)),),))
        self.assert_fault("state\n0 0:1001", ("ends", 0, 0))
        self.assert_fault("state\n0 0:9999", ("ends", 0, 0))
        self.assert_fault("state\n0 0:0", ("ends", 0, 0))

    def test_ends(self):
        self.assert_fault("state\n0 9999:1", ("ends", 0, 0))
        self.assert_fault("state\n0 1:1", ("ends", 0, 0))
        self.assert_fault("state\n0 1:1 0:1\nstate\n0 1:1", ("ends", 0, 0))
        self.assert_fault("state\n0 0:1\nstate\n0 1:1\n0 0:1 0:1", ("ends", 1, 1))

    def test_any_number_of_ends_is_read(self):
        self.assert_fault("state\n0", ("ends", 0, 0))
        self.assert_fault("state\n9999", ("cost", 0, 0))
        self.assert_fault("state\n0 0:1\n7\nstate\n0 1:1", ("ends", 0, 1))
        seven = "0 " + " ".join(f"{end}:1" for end in range(7))
        self.assert_fault("state\n" + seven + "\nstate\n0 1:1" * 7, ("ends", 0, 0))


if __name__ == "__main__":
    unittest.main()
