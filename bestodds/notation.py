"""Written systems: texts with a line for each state and each choice (points 6 and 7)."""

from bestodds.errors import InvalidLine, InvalidSystem
from bestodds.ratios import is_number
from bestodds.systems import fault

MOST_PLACES = 4


def format_system(system):
    """The text of a system, without a newline at the end."""
    lines = []
    for choices in system:
        lines.append("state")
        for cost, ends in choices:
            lines.append(format_choice(cost, ends))
    return "\n".join(lines)


def format_choice(cost, ends):
    """The line of a choice."""
    words = [str(cost)]
    for state, weight in ends:
        words.append(f"{state}:{weight}")
    return " ".join(words)


def parse_system(text):
    """The system of a text; raises InvalidLine, and then InvalidSystem."""
    states = []
    for number, line in enumerate(text.split("\n")):
        if line == "state":
            states.append([])
        elif not states:
            raise InvalidLine(number)
        else:
            states[-1].append(parse_choice(number, line))
    system = tuple([tuple(choices) for choices in states])
    found = fault(system)
    if found is not None:
        raise InvalidSystem(found)
    return system


def parse_choice(number, line):
    """The choice that line `number` says, with any number of ends; raises InvalidLine."""
    words = line.split(" ")
    cost = parse_integer(number, words[0])
    ends = []
    for word in words[1:]:
        state, _, weight = word.partition(":")
        ends.append((parse_integer(number, state), parse_integer(number, weight)))
    return (cost, tuple(ends))


def parse_integer(number, word):
    """The integer that a word, or part of a word, of line `number` says; raises InvalidLine."""
    if not is_number(word, MOST_PLACES):
        raise InvalidLine(number)
    return int(word)
