"""The best chances of a wish, with a certificate (points 14 to 19)."""

from bestodds.chains import policy_chances
from bestodds.ratios import is_better
from bestodds.sure import choices_on_way, distances, leads_into, levels
from bestodds.systems import mean


def best_chances(system, allowed, targets, most):
    """A certificate (values, policy, ranks) of the best chances of a wish from each state."""
    usable = choices_on_way(system, allowed, targets)
    better = first_policy(system, usable, targets, most)
    policy = None
    while better != policy:
        policy = better
        values = policy_chances(system, policy, allowed, targets)
        better = improved(system, usable, policy, values, most)
    if most:
        ranks = distances(system, usable, targets, policy)
    else:
        ranks = ranks_of_least(system, usable, targets, values)
    return (tuple(values), tuple(policy), tuple(ranks))


def first_policy(system, usable, targets, most):
    """A policy from which better means lead to the best chances."""
    policy = [0] * len(system)
    if most:
        return policy
    # The means do not tell that it is better to go round without end than to come to a target.
    # So from the beginning a state from which the targets can be avoided avoids them.
    near = levels(system, usable, targets, True)
    for state, numbers in enumerate(usable):
        away = [number for number in numbers if not leads_into(system[state][number], near)]
        if away:
            policy[state] = away[0]
    return policy


def improved(system, usable, policy, values, most):
    """The policy, but with the best choice wherever one has a better mean than the value."""
    found = list(policy)
    for state, numbers in enumerate(usable):
        best = values[state]
        for number in numbers:
            here = mean(system, state, number, values)
            if is_better(here, best, most):
                best = here
                found[state] = number
    return found


def ranks_of_least(system, usable, targets, values):
    """For each state the steps within which each way of choosing may come to an end of the wish."""
    ends = [state for state, value in enumerate(values) if value == (0, 1) or state in targets]
    return levels(system, usable, ends, True)
