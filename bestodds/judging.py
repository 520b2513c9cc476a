"""The judge of certificates of chances (points 17 and 18)."""

from bestodds.ratios import is_fraction, is_less
from bestodds.systems import is_policy, mean


def judge_chances(system, allowed, targets, most, certificate):
    """True if the certificate is accepted, otherwise False."""
    values, policy, ranks = certificate
    if not has_form(system, values, policy, ranks):
        return False
    for state in range(len(system)):
        if state in targets:
            accepted = values[state] == (1, 1)
        elif state not in allowed:
            accepted = values[state] == (0, 1)
        elif most:
            accepted = is_greatest(system, state, certificate)
        else:
            accepted = is_least(system, targets, state, certificate)
        if not accepted:
            return False
    return True


def has_form(system, values, policy, ranks):
    """True if there are fractions from 0 to 1, a policy, and ranks, one for each state."""
    if len(values) != len(system) or len(ranks) != len(system):
        return False
    if not is_policy(system, policy) or any([rank < 0 for rank in ranks]):
        return False
    return all([is_fraction(value) and 0 <= value[0] <= value[1] for value in values])


def is_greatest(system, state, certificate):
    """True if conditions 2 and 3 of point 17 hold in a state."""
    values, policy, ranks = certificate
    value = values[state]
    for number in range(len(system[state])):
        if is_less(value, mean(system, state, number, values)):
            return False
    if value == (0, 1):
        return True
    if mean(system, state, policy[state], values) != value:
        return False
    _, ends = system[state][policy[state]]
    return any([values[end] != (0, 1) and ranks[end] < ranks[state] for end, _ in ends])


def is_least(system, targets, state, certificate):
    """True if the conditions of point 18 hold in a state."""
    values, policy, ranks = certificate
    value = values[state]
    for number in range(len(system[state])):
        if is_less(mean(system, state, number, values), value):
            return False
    if mean(system, state, policy[state], values) != value:
        return False
    if value == (0, 1):
        return True
    for _, ends in system[state]:
        if not any([end in targets or values[end] == (0, 1) or ranks[end] < ranks[state]
                    for end, _ in ends]):
            return False
    return True
