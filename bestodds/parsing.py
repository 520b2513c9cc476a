"""Written sentences (points 33 and 34)."""

from bestodds.errors import InvalidRatio, InvalidWord, SentenceTooLarge
from bestodds.ratios import is_less, is_number, parse_ratio
from bestodds.sentences import MOST_LINES, MOST_STEPS

# Longer numbers are greater than every state and every number of steps.
MOST_DIGITS = 9


def read_sentence(system, text):
    """The sentence that a text says; raises InvalidWord, and then SentenceTooLarge."""
    reader = Reader(len(system), text)
    reader.sentence()
    if reader.at < len(reader.words):
        raise InvalidWord(reader.at)
    if len(reader.lines) > MOST_LINES:
        raise SentenceTooLarge()
    return tuple(reader.lines)


class Reader:
    """Reads the words of a text one by one and gathers the lines of its sentence."""

    def __init__(self, many, text):
        self.many = many
        self.words = [word for word in text.split(" ") if word != ""]
        self.at = 0
        self.lines = []

    def word(self):
        """The word to be read, the empty text behind the last one."""
        if self.at < len(self.words):
            return self.words[self.at]
        return ""

    def chosen(self, *words):
        """Reads a word that has to be one of these; returns it."""
        word = self.word()
        if word not in words:
            raise InvalidWord(self.at)
        self.at += 1
        return word

    def said(self, line):
        """Adds a line; returns its number."""
        self.lines.append(line)
        return len(self.lines) - 1

    def sentence(self):
        """Reads a sentence and adds its lines; returns the number of the last one."""
        word = self.chosen("in", "not", "(", "most", "least")
        if word == "in":
            return self.said(("in", self.states()))
        if word == "not":
            return self.said(("not", self.sentence()))
        if word == "(":
            return self.joined()
        return self.about_chances(word == "most")

    def states(self):
        """Reads the states behind `in` and the word that ends them."""
        states = []
        least = 0
        while self.word() != ";":
            states.append(self.integer(least, self.many - 1))
            least = states[-1] + 1
        self.at += 1
        return tuple(states)

    def integer(self, least, greatest):
        """Reads an integer that is neither below the least nor above the greatest one."""
        word = self.word()
        if not is_number(word, MOST_DIGITS) or not least <= int(word) <= greatest:
            raise InvalidWord(self.at)
        self.at += 1
        return int(word)

    def joined(self):
        """Reads what stands behind `(`; returns the number of the last line."""
        f = self.sentence()
        word = self.chosen("and", "or")
        if word == "or":
            f = self.said(("not", f))
        g = self.sentence()
        self.chosen(")")
        if word == "and":
            return self.said(("and", f, g))
        g = self.said(("not", g))
        return self.said(("not", self.said(("and", f, g))))

    def about_chances(self, most):
        """Reads what stands behind `most` or `least`; returns the number of the last line."""
        at_least = self.chosen(">=", "<=") == ">="
        x = self.chance()
        name = self.chosen("next", "until", "within")
        if name == "next":
            return self.said((name, most, at_least, x, self.sentence()))
        steps = (self.integer(0, MOST_STEPS),) if name == "within" else ()
        f = self.sentence()
        g = self.sentence()
        return self.said((name, most, at_least, x, f, g, *steps))

    def chance(self):
        """Reads a fraction from 0 to 1."""
        try:
            x = parse_ratio(self.word())
        except InvalidRatio:
            raise InvalidWord(self.at) from None
        if is_less(x, (0, 1)) or is_less((1, 1), x):
            raise InvalidWord(self.at)
        self.at += 1
        return x
