"""Written sentences (points 33 and 34)."""

import unittest
from fractions import Fraction
from random import Random

from bestodds import parsing
from bestodds.errors import InvalidWord, SentenceTooLarge
from bestodds.parsing import read_sentence
from bestodds.sentences import is_valid

SYSTEM = (((0, ((0, 1),)),),) * 12


def written(random, states, depth):
    """A random sentence: its words and its lines, f and g counted from its own first line."""
    kind = random.choice(["in", "not", "and", "or", "next", "until", "within"]) if depth else "in"
    if kind == "in":
        chosen = sorted(random.sample(range(states), random.randint(0, states)))
        return ["in", *map(str, chosen), ";"], [("in", tuple(chosen))]
    words, lines = written(random, states, depth - 1)
    f = len(lines) - 1
    if kind == "not":
        return ["not", *words], [*lines, ("not", f)]
    most, at_least = random.random() < 0.5, random.random() < 0.5
    d = random.randint(1, 9)
    n = random.randint(0, d)
    x = Fraction(n, d)
    head = ["most" if most else "least", ">=" if at_least else "<=", f"{n}/{d}", kind]
    about = (kind, most, at_least, (x.numerator, x.denominator))
    if kind == "next":
        return [*head, *words], [*lines, (*about, f)]
    if kind == "or":
        lines.append(("not", f))
        f += 1
    more_words, more = written(random, states, depth - 1)
    lines = lines + [moved(line, len(lines)) for line in more]
    g = len(lines) - 1
    if kind == "and":
        return ["(", *words, "and", *more_words, ")"], [*lines, ("and", f, g)]
    if kind == "or":
        return (["(", *words, "or", *more_words, ")"],
                [*lines, ("not", g), ("and", f, g + 1), ("not", g + 2)])
    if kind == "until":
        return [*head, *words, *more_words], [*lines, (*about, f, g)]
    steps = random.randint(0, 30)
    return [*head, str(steps), *words, *more_words], [*lines, (*about, f, g, steps)]


def moved(line, by):
    """A line with the numbers of other lines moved."""
    at = {"in": (), "not": (1,), "and": (1, 2), "next": (4,), "until": (4, 5), "within": (4, 5)}[line[0]]
    return tuple(member + by if place in at else member for place, member in enumerate(line))


class ReadingTest(unittest.TestCase):

    def reads(self, text, *lines):
        with self.subTest(text=text):
            found = read_sentence(SYSTEM, text)
            self.assertEqual(found, lines)
            self.assertIs(type(found), tuple)
            self.assertEqual({type(line) for line in found}, {tuple})
            self.assertIs(is_valid(SYSTEM, found), True)

    def test_everything_is_defined_in_the_file(self):
        self.assertEqual(read_sentence.__module__, "bestodds.parsing")
        self.assertIs(parsing.read_sentence, read_sentence)

    def test_states(self):
        self.reads("in ;", ("in", ()))
        self.reads("in 0 ;", ("in", (0,)))
        self.reads("in 0 3 10 11 ;", ("in", (0, 3, 10, 11)))
        self.reads("in 0 1 2 3 4 5 6 7 8 9 10 11 ;", ("in", tuple(range(12))))

    def test_not(self):
        self.reads("not in 4 ;", ("in", (4,)), ("not", 0))
        self.reads("not not not in 4 ;", ("in", (4,)), ("not", 0), ("not", 1), ("not", 2))

    def test_and(self):
        self.reads("( in 1 ; and in 2 ; )", ("in", (1,)), ("in", (2,)), ("and", 0, 1))

    def test_or(self):
        self.reads("( in 1 ; or in 2 ; )", ("in", (1,)), ("not", 0), ("in", (2,)), ("not", 2), ("and", 1, 3),
                   ("not", 4))

    def test_next(self):
        self.reads("most >= 1/2 next in 3 ;", ("in", (3,)), ("next", True, True, (1, 2), 0))
        self.reads("least <= 1 next in 3 ;", ("in", (3,)), ("next", False, False, (1, 1), 0))

    def test_until(self):
        self.reads("most <= 0 until in 1 ; in 2 ;",
                   ("in", (1,)), ("in", (2,)), ("until", True, False, (0, 1), 0, 1))
        self.reads("least >= 7/10 until not in 1 ; in 2 ;",
                   ("in", (1,)), ("not", 0), ("in", (2,)), ("until", False, True, (7, 10), 1, 2))

    def test_within(self):
        for n in (0, 1, 9, 10, 29, 30):
            self.reads(f"least >= 1/3 within {n} in 1 ; in 2 ;",
                       ("in", (1,)), ("in", (2,)), ("within", False, True, (1, 3), 0, 1, n))

    def test_fractions(self):
        long = "1" + "0" * 29
        for word, x in (("0", (0, 1)), ("1", (1, 1)), ("0/7", (0, 1)), ("2/4", (1, 2)), ("6/6", (1, 1)),
                        ("999/1000", (999, 1000)), (f"1/{long}", (1, 10 ** 29)), (f"{long}/{long}", (1, 1))):
            self.reads(f"most >= {word} next in ;", ("in", ()), ("next", True, True, x, 0))

    def test_nested_sentences(self):
        self.reads("( ( in ; and not in 1 ; ) or ( in 2 ; or in 3 ; ) )",
                   ("in", ()), ("in", (1,)), ("not", 1), ("and", 0, 2), ("not", 3), ("in", (2,)), ("not", 5),
                   ("in", (3,)), ("not", 7), ("and", 6, 8), ("not", 9), ("not", 10), ("and", 4, 11), ("not", 12))
        self.reads("most >= 1 until most <= 1/2 within 3 in ; in 1 ; least >= 0 next in 2 ;",
                   ("in", ()), ("in", (1,)), ("within", True, False, (1, 2), 0, 1, 3), ("in", (2,)),
                   ("next", False, True, (0, 1), 3), ("until", True, True, (1, 1), 2, 4))

    def test_a_part_that_is_written_twice(self):
        self.reads("( in 5 ; and in 5 ; )", ("in", (5,)), ("in", (5,)), ("and", 0, 1))

    def test_spaces(self):
        self.reads("   in    0   11  ;  ", ("in", (0, 11)))
        self.reads(" (  not in ;   and   in 1 ; ) ", ("in", ()), ("not", 0), ("in", (1,)), ("and", 1, 2))

    def test_the_example_of_the_document(self):
        system = (((0, ((0, 1), (1, 2))),), ((5, ((1, 1),)),))
        self.assertEqual(read_sentence(system, "( in 0 ; or in 1 ; )"),
                         (("in", (0,)), ("not", 0), ("in", (1,)), ("not", 2), ("and", 1, 3), ("not", 4)))

    def test_many_sentences(self):
        random = Random(70)
        read = 0
        for _ in range(600):
            words, lines = written(random, 12, random.randint(0, 5))
            text = "".join(word + " " * random.randint(1, 3) for word in words)
            if len(lines) <= 40:
                self.reads(random.choice((text, " " + text, text.rstrip())), *lines)
                read += 1
            else:
                with self.assertRaises(SentenceTooLarge):
                    read_sentence(SYSTEM, text)
        self.assertGreater(read, 300)

    def test_deep_sentences(self):
        for depth in (60, 90):
            with self.assertRaises(SentenceTooLarge):
                read_sentence(SYSTEM, "( in ; and " * depth + "in ;" + " )" * depth)
            with self.assertRaises(SentenceTooLarge):
                read_sentence(SYSTEM, "most >= 1 until in ; " * depth + "in ;")
            with self.assertRaises(InvalidWord) as caught:
                read_sentence(SYSTEM, "( " * depth)
            self.assertEqual(caught.exception.number, depth)


class TooLargeTest(unittest.TestCase):

    def test_40_and_41_lines(self):
        found = read_sentence(SYSTEM, "not " * 39 + "in 1 ;")
        self.assertEqual(found, (("in", (1,)), *[("not", number) for number in range(39)]))
        with self.assertRaises(SentenceTooLarge):
            read_sentence(SYSTEM, "not " * 40 + "in 1 ;")
        # Each `or` around adds five lines, each `and` two.
        sentence = "( in ; or in ; )"
        for _ in range(8):
            sentence = f"( {sentence} or in ; )"
        with self.assertRaises(SentenceTooLarge):
            read_sentence(SYSTEM, sentence)
        self.assertEqual(len(read_sentence(SYSTEM, sentence.replace("or", "and"))), 19)

    def test_a_text_that_cannot_be_read_is_told_first(self):
        for text, number in (("not " * 60 + "in 1", 62), ("not " * 60 + "in 1 ; ;", 63),
                             ("not " * 60 + "in 12 ;", 61)):
            with self.assertRaises(InvalidWord) as caught:
                read_sentence(SYSTEM, text)
            self.assertEqual(caught.exception.number, number)


class WrongWordsTest(unittest.TestCase):

    def fails(self, number, text):
        with self.subTest(text=text), self.assertRaises(InvalidWord) as caught:
            read_sentence(SYSTEM, text)
        self.assertEqual(caught.exception.number, number)

    good = ("( most >= 1/2 until not in 1 2 ; least <= 1/3 within 5 in ; in 4 ; or ( in 3 ; and "
            "least >= 1 next in 0 ; ) )").split()

    def test_the_good_text(self):
        self.assertEqual(len(read_sentence(SYSTEM, " ".join(self.good))), 14)

    def test_texts_that_end_too_early(self):
        self.fails(0, "")
        self.fails(0, "    ")
        for length in range(len(self.good)):
            self.fails(length, " ".join(self.good[:length]))
            self.fails(length, "  ".join(["", *self.good[:length], ""]))

    def test_a_word_too_many(self):
        for word in ("in", ")", ";", "and", "not", "0", "nonsense"):
            self.fails(len(self.good), " ".join([*self.good, word]))
            self.fails(len(self.good), " ".join([*self.good, word, "in", "0"]))
        self.fails(2, "in ; ;")
        self.fails(3, "in 1 ; in 2 ;")

    def test_an_unknown_word_in_each_place(self):
        for at in range(len(self.good)):
            for word in ("nonsense", "=", "!", "~", "-1", "99", "1/0", "not,"):
                self.fails(at, " ".join([*self.good[:at], word, *self.good[at + 1:]]))

    def test_words_that_cannot_stand_in_their_place(self):
        for text in ("and", "or", ")", ";", ">=", "<=", "1/2", "0", "next", "until", "within", "In ;", "IN ;",
                     "in; 0", "most>= 1 next in ;", "(in ; and in ; )"):
            self.fails(0, text)
        for text in ("not ;", "not )", "not 0", "in in ;", "in not ;", "in ) ;", "( )", "( and", "( 0",
                     "most most", "least = 1", "least > 1", "most < 1", "most 1/2 >= next in ;", "most => 1"):
            self.fails(1, text)
        for text in ("most >= next in ;", "most >= in ;", "least <= <= 1 next in ;", "most >= 1//2 next in ;"):
            self.fails(2, text)
        for text in ("most >= 1 in ;", "most >= 1 not in ;", "most >= 1 1 next in ;", "most >= 1/2 then in ;",
                     "( in ; )", "( in ; in ; )", "( in ; not in ; )", "( in ; xor in ; )", "( in ; ; )"):
            self.fails(3, text)
        for text in ("most >= 1 until ;", "most >= 1 until 3 in ; in ;", "most >= 1 next 3 in ;",
                     "most >= 1 within in ; in ;", "most >= 1 within -3 in ; in ;", "( in ; and )", "( in ; or or"):
            self.fails(4, text)
        self.fails(6, "( in ; and in ; and in ; )")
        self.fails(6, "( in ; and in ;")
        self.fails(6, "( in ; or in ; ;")
        self.fails(6, "most >= 1 until in ;")
        self.fails(6, "most >= 1 until in ; )")
        self.fails(6, "most >= 1 within 3 in in ; in ;")
        self.fails(8, "most >= 1 within 3 in 0 ; until in ;")

    def test_states_that_do_not_exist(self):
        self.fails(1, "in 12 ;")
        self.fails(3, "in 0 11 12 ;")
        self.fails(1, "in 100 ;")
        self.fails(1, "in " + "9" * 5000 + " ;")
        self.fails(1, "in -1 ;")
        self.fails(1, "in -0 ;")
        self.fails(1, "in +1 ;")
        self.fails(1, "in 1, 2 ;")
        self.fails(1, "in 1; ")
        for many in (1, 20):
            system = SYSTEM[:1] * many
            self.assertEqual(read_sentence(system, f"in {many - 1} ;"), (("in", (many - 1,)),))
            with self.assertRaises(InvalidWord) as caught:
                read_sentence(system, f"in {many} ;")
            self.assertEqual(caught.exception.number, 1)

    def test_states_that_do_not_ascend(self):
        self.fails(2, "in 1 1 ;")
        self.fails(2, "in 1 0 ;")
        self.fails(3, "in 2 5 3 ;")
        self.fails(3, "in 2 5 5 ;")
        self.fails(2, "in 0 0 ;")

    def test_zeros_in_front(self):
        self.fails(1, "in 01 ;")
        self.fails(1, "in 00 ;")
        self.fails(2, "in 0 01 ;")
        self.fails(4, "most >= 1 within 05 in ; in ;")
        self.fails(4, "most >= 1 within 00 in ; in ;")
        self.fails(2, "most >= 01/2 next in ;")
        self.fails(2, "most >= 1/02 next in ;")
        self.fails(2, "most >= 00 next in ;")

    def test_fractions_that_are_not_from_0_to_1(self):
        for word in ("2", "3/2", "1001/1000", "-1/2", "-1", "-0", "-0/3", "-1000", "1" + "0" * 29):
            self.fails(2, f"most >= {word} next in ;")

    def test_words_that_are_no_fractions(self):
        for word in ("1/", "/2", "1/0", "0/0", "0.5", "1/-2", "1:2", "half", "1e0", "+1/2", "1/1" + "0" * 30,
                     "0" * 31, "9" * 5000):
            self.fails(2, f"most >= {word} next in ;")
        self.fails(3, "most >= 1 / 2 next in ;")

    def test_numbers_of_steps(self):
        self.assertEqual(read_sentence(SYSTEM, "most >= 1 within 30 in ; in ;")[-1][-1], 30)
        for word in ("31", "32", "100", "-1", "-0", "3/1", "3.0", "x", "9" * 5000, "1" + "0" * 9):
            self.fails(4, f"most >= 1 within {word} in ; in ;")

    def test_newlines_do_not_separate_words(self):
        self.fails(0, "in\n;")
        self.fails(0, "\nin ;")
        self.fails(1, "in ;\n")
        self.fails(2, "in 0 ;\n")
        self.fails(1, "in 0\n1 ;")
        self.fails(1, "not \n in ;")
        self.fails(2, "in ; \n")
        self.fails(0, "\n")

    def test_of_several_wrong_words_the_first_one(self):
        self.fails(2, "most >= 2 within 31 in 99 ; x")
        self.fails(4, "most >= 1 within 31 in 99 ; x")
        self.fails(6, "most >= 1 within 30 in 99 ; x")


if __name__ == "__main__":
    unittest.main()
