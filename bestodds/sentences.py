"""Sentences about states, and the states in which they hold (points 29 to 32)."""

from bestodds.chances import best_chances
from bestodds.ratios import is_better, is_fraction, is_less
from bestodds.systems import mean
from bestodds.within import bounded_chances

MOST_LINES = 40
MOST_STEPS = 30

# How many members a line has, its name among them.
MEMBERS = {"in": 2, "not": 2, "and": 3, "next": 5, "until": 6, "within": 7}


def is_valid(system, sentence):
    """True if the sentence is valid for the system, otherwise False."""
    if not 1 <= len(sentence) <= MOST_LINES:
        return False
    return all([is_line(len(system), at, line) for at, line in enumerate(sentence)])


def is_line(many, at, line):
    """True if this is line `at` of a sentence about a system of `many` states."""
    name, *members = line
    if MEMBERS.get(name) != len(line):
        return False
    if name == "in":
        return is_set(many, members[0])
    if name in ("not", "and"):
        return are_earlier(at, members)
    x, *rest = members[2:]
    if not (is_fraction(x) and 0 <= x[0] <= x[1]):
        return False
    if name == "within":
        return are_earlier(at, rest[:2]) and 0 <= rest[2] <= MOST_STEPS
    return are_earlier(at, rest)


def is_set(many, states):
    """True if these are some of `many` states in strictly ascending order."""
    before = -1
    for state in states:
        if not before < state < many:
            return False
        before = state
    return True


def are_earlier(at, numbers):
    """True if these are numbers of lines before line `at`."""
    return all([0 <= number < at for number in numbers])


def states_where(system, sentence):
    """The states in which a valid sentence holds."""
    found = []
    for line in sentence:
        found.append(states_of_line(system, line, found))
    return list(found[-1])


def states_of_line(system, line, found):
    """The states in which a line holds, given those of the lines before it."""
    name, *members = line
    if name == "in":
        return list(members[0])
    if name == "not":
        return [state for state in range(len(system)) if state not in found[members[0]]]
    if name == "and":
        f, g = members
        return [state for state in found[f] if state in found[g]]
    at_least, x = members[1:3]
    return [state for state, chance in enumerate(chances_of_line(system, line, found))
            if not (is_less(chance, x) if at_least else is_less(x, chance))]


def chances_of_line(system, line, found):
    """For each state the chance that a line is about."""
    name, most, _, _, f, *rest = line
    if name == "next":
        return next_chances(system, found[f], most)
    g, *steps = rest
    if name == "until":
        values, _, _ = best_chances(system, found[f], found[g], most)
    else:
        values, _ = bounded_chances(system, found[f], found[g], steps[0], most)
    return values


def next_chances(system, states, most):
    """For each state the best chance that the next state is one of these."""
    inside = [(1, 1) if state in states else (0, 1) for state in range(len(system))]
    return [best_mean(system, state, inside, most) for state in range(len(system))]


def best_mean(system, state, values, most):
    """The best mean of the values over the choices of a state."""
    best = mean(system, state, 0, values)
    for number in range(1, len(system[state])):
        here = mean(system, state, number, values)
        if is_better(here, best, most):
            best = here
    return best
