"""The best costs until targets, their certificates and the judge of these (points 20 to 23)."""

from bestodds.chains import policy_costs
from bestodds.ratios import is_better, is_fraction
from bestodds.sure import attainable, certain, distances, levels
from bestodds.systems import cost_and_mean, is_policy


def best_costs(system, targets, most):
    """A certificate (costs, policy, ranks) of the best costs until the targets from each state."""
    finite = finite_states(system, targets, most)
    usable = choices_inside(system, targets, finite)
    better = nearing_policy(system, usable, targets)
    policy = None
    while better != policy:
        policy = better
        costs = policy_costs(system, policy, targets)
        better = improved(system, usable, policy, costs, most)
    ranks = distances(system, usable, targets, policy)
    # Outside a policy may have finite costs where another way of choosing has an infinite one.
    told = [cost if state in finite else None for state, cost in enumerate(costs)]
    return (tuple(told), tuple(policy), tuple(ranks))


def finite_states(system, targets, most):
    """The states from which the best cost is finite (point 21)."""
    everywhere = list(range(len(system)))
    if most:
        return certain(system, everywhere, targets)
    return attainable(system, everywhere, targets)


def choices_inside(system, targets, finite):
    """For each state the numbers of its choices all of whose ends are finite states.

    There are none for targets and for states that are not finite themselves.
    """
    usable = []
    for state, choices in enumerate(system):
        numbers = []
        if state in finite and state not in targets:
            numbers = [number for number, (_, ends) in enumerate(choices)
                       if all([end in finite for end, _ in ends])]
        usable.append(numbers)
    return usable


def nearing_policy(system, usable, targets):
    """A policy that may come nearer to a target with each usable choice, so that it reaches one."""
    near = levels(system, usable, targets, False)
    policy = [0] * len(system)
    for state, numbers in enumerate(usable):
        nearing = [number for number in numbers
                   if any([near[end] < near[state] for end, _ in system[state][number][1]])]
        if nearing:
            policy[state] = nearing[0]
    return policy


def improved(system, usable, policy, costs, most):
    """The policy, but with the best choice wherever one is better than the cost of the state."""
    # A choice that is no better is not taken: circles that cost nothing look as good as the way
    # to the targets. A circle with a choice that is truly cheaper would cost less than nothing.
    found = list(policy)
    for state, numbers in enumerate(usable):
        best = costs[state]
        for number in numbers:
            here = cost_and_mean(system, state, number, costs)
            if is_better(here, best, most):
                best = here
                found[state] = number
    return found


def judge_costs(system, targets, most, certificate):
    """True if the certificate is accepted (point 22), otherwise False."""
    costs, policy, ranks = certificate
    if not has_form(system, costs, policy, ranks):
        return False
    finite = finite_states(system, targets, most)
    for state, cost in enumerate(costs):
        if state in targets:
            accepted = cost == (0, 1)
        elif state not in finite or cost is None:
            accepted = state not in finite and cost is None
        else:
            accepted = (is_met(system, targets, state, certificate)
                        and is_best(system, state, costs, most))
        if not accepted:
            return False
    return True


def has_form(system, costs, policy, ranks):
    """True if there are fractions or None, a policy, and ranks, one for each state."""
    if len(costs) != len(system) or len(ranks) != len(system):
        return False
    if not is_policy(system, policy) or any([rank < 0 for rank in ranks]):
        return False
    return all([cost is None or is_fraction(cost) for cost in costs])


def is_met(system, targets, state, certificate):
    """True if condition 2 of point 22 holds in a state."""
    costs, policy, ranks = certificate
    number = policy[state]
    if not has_costs(system, state, number, costs):
        return False
    if cost_and_mean(system, state, number, costs) != costs[state]:
        return False
    _, ends = system[state][number]
    return any([end in targets or ranks[end] < ranks[state] for end, _ in ends])


def is_best(system, state, costs, most):
    """True if condition 3 of point 22 holds in a state."""
    for number in range(len(system[state])):
        if has_costs(system, state, number, costs):
            if is_better(cost_and_mean(system, state, number, costs), costs[state], most):
                return False
    return True


def has_costs(system, state, number, costs):
    """True if no end of a choice has the cost None."""
    _, ends = system[state][number]
    return all([costs[end] is not None for end, _ in ends])
