"""Alike states and quotients (points 35 to 37)."""

from math import gcd

from bestodds.errors import WeightTooGreat
from bestodds.systems import MOST_WEIGHT


def blocks(system, groups):
    """The list of the blocks of alike states, each in ascending order."""
    return members_of(block_numbers(system, groups))


def quotient(system, groups):
    """The system with one state for each block; raises WeightTooGreat."""
    numbers = block_numbers(system, groups)
    states = []
    for block in members_of(numbers):
        states.append(choices_between(system[block[0]], numbers))
    if any([has_great_weight(choices) for choices in states]):
        raise WeightTooGreat()
    return tuple(states)


def has_great_weight(choices):
    """True if a weight of one of the choices does not fit a system."""
    return any([weight > MOST_WEIGHT for _, ends in choices for _, weight in ends])


def block_numbers(system, groups):
    """For each state the number of its block, in ascending order of their least states."""
    numbers = numbered(groups)
    while True:
        # States stay together if they were together and have the same choices between blocks.
        finer = numbered([(number, tuple(sorted(choices_between(choices, numbers))))
                          for choices, number in zip(system, numbers)])
        if finer == numbers:
            return numbers
        numbers = finer


def numbered(keys):
    """For each key how many other keys come before its first place: the same for equal keys."""
    found = {}
    for key in keys:
        if key not in found:
            found[key] = len(found)
    return [found[key] for key in keys]


def members_of(numbers):
    """The lists of the states that have the same number, in order of the numbers."""
    members = [[] for _ in range(max(numbers) + 1)]
    for state, number in enumerate(numbers):
        members[number].append(state)
    return members


def choices_between(choices, numbers):
    """The different choices of a state as choices between blocks, in order."""
    found = []
    for cost, ends in choices:
        between = (cost, ends_between(ends, numbers))
        if between not in found:
            found.append(between)
    return tuple(found)


def ends_between(ends, numbers):
    """The blocks of the ends of a choice, with weights that have no common divisor."""
    weights = {}
    shared = 0
    for state, weight in ends:
        block = numbers[state]
        weights[block] = weights.get(block, 0) + weight
    for weight in weights.values():
        shared = gcd(shared, weight)
    return tuple([(block, weight // shared) for block, weight in sorted(weights.items())])
