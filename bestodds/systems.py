"""Systems: their faults, moves, means and policies (points 3 to 5)."""

from math import lcm

from bestodds.ratios import plus, ratio

MOST_STATES = 20
MOST_CHOICES = 6
MOST_COST = 1000
MOST_ENDS = 6
MOST_WEIGHT = 1000


def fault(system):
    """None if the system is valid, otherwise the first thing that is wrong."""
    if not 1 <= len(system) <= MOST_STATES:
        return ("states",)
    for state, choices in enumerate(system):
        found = fault_in_state(len(system), state, choices)
        if found is not None:
            return found
    return None


def fault_in_state(many, state, choices):
    """The first thing that is wrong in one of `many` states, or None."""
    if not 1 <= len(choices) <= MOST_CHOICES:
        return ("choices", state)
    for number, (cost, ends) in enumerate(choices):
        if not 0 <= cost <= MOST_COST:
            return ("cost", state, number)
        if not are_ends(many, ends):
            return ("ends", state, number)
    return None


def are_ends(many, ends):
    """True if these are the ends of a choice in a system of `many` states."""
    if not 1 <= len(ends) <= MOST_ENDS:
        return False
    before = -1
    for state, weight in ends:
        if not before < state < many:
            return False
        if not 1 <= weight <= MOST_WEIGHT:
            return False
        before = state
    return True


def moves(system, state, choice):
    """The pairs of each end of a choice and its chance, in order of the ends."""
    _, ends = system[state][choice]
    total = sum([weight for end, weight in ends])
    return [(end, ratio(weight, total)) for end, weight in ends]


def mean(system, state, choice, numbers):
    """The mean of the numbers of the states, which are fractions, over a choice."""
    _, ends = system[state][choice]
    # Over a common denominator, so that long numbers are brought to lowest terms only once.
    common = 1
    for end, _ in ends:
        common = lcm(common, numbers[end][1])
    total = 0
    for end, weight in ends:
        n, d = numbers[end]
        total += weight * n * (common // d)
    return ratio(total, common * sum([weight for _, weight in ends]))


def cost_and_mean(system, state, choice, numbers):
    """The cost of a choice plus the mean of the numbers of the states over it."""
    cost, _ = system[state][choice]
    return plus((cost, 1), mean(system, state, choice, numbers))


def is_policy(system, policy):
    """True if the policy has the number of a choice for each state and no more."""
    if len(policy) != len(system):
        return False
    return all([0 <= number < len(choices) for number, choices in zip(policy, system)])
