"""The chances and costs of a policy (points 12 and 13)."""

from bestodds.linear import solve
from bestodds.parts import closed_parts
from bestodds.ratios import minus, over, plus, times
from bestodds.sure import certain, possible
from bestodds.systems import mean, moves


def policy_chances(system, policy, allowed, targets):
    """The list of the chances of a wish from each state with a policy."""
    chain = chain_of(system, policy)
    values = at_targets(chain, targets, (1, 1), (0, 1))
    hopeful = [state for state in possible(chain, allowed, targets) if state not in targets]
    return settled(chain, values, hopeful, [(0, 1)] * len(chain))


def policy_costs(system, policy, targets):
    """The list of the costs until the targets from each state with a policy, None if infinite."""
    chain = chain_of(system, policy)
    values = at_targets(chain, targets, (0, 1), None)
    everywhere = list(range(len(chain)))
    finite = [state for state in certain(chain, everywhere, targets) if state not in targets]
    return settled(chain, values, finite, costs_of(chain))


def policy_averages(system, policy):
    """The list of the costs in the long run from each state with a policy."""
    chain = chain_of(system, policy)
    values = [None] * len(chain)
    for part in closed_parts(chain):
        members = [state for state, _ in part]
        average = class_average(chain, members)
        for state in members:
            values[state] = average
    passing = [state for state, value in enumerate(values) if value is None]
    return settled(chain, values, passing, [(0, 1)] * len(chain))


def chain_of(system, policy):
    """The system in which each state has the choice of the policy as its only one."""
    return tuple([(choices[policy[state]],) for state, choices in enumerate(system)])


def costs_of(chain):
    """For each state of a chain the cost of its choice, as a fraction."""
    return [(choices[0][0], 1) for choices in chain]


def at_targets(chain, targets, inside, elsewhere):
    """For each state one value if it is a target and another one if it is not."""
    return [inside if state in targets else elsewhere for state in range(len(chain))]


def class_average(chain, members):
    """The cost in the long run in a closed class of a chain."""
    # The ways from a state back to it are alike: their mean cost is shared by their mean length.
    paid = round_trip(chain, members, costs_of(chain))
    length = round_trip(chain, members, [(1, 1)] * len(chain))
    return over(paid, length)


def round_trip(chain, members, paid):
    """The mean of what is paid from the first member until it is reached again."""
    first, *others = members
    sums = settled(chain, [(0, 1)] * len(chain), others, paid)
    return plus(paid[first], mean(chain, first, 0, sums))


def settled(chain, values, asked, paid):
    """The values, but for each asked state what it pays plus the mean of the values of its ends.

    From each asked state a state that is not asked can be reached, so there is one solution.
    """
    found = list(values)
    solution = solve([own_row(chain, asked, state) for state in asked],
                     [outside_part(chain, values, asked, paid, state) for state in asked])
    for state, value in zip(asked, solution):
        found[state] = value
    return found


def own_row(chain, asked, state):
    """The coefficients of the asked states in the equation of one of them."""
    chances = dict(moves(chain, state, 0))
    row = []
    for other in asked:
        one = (1, 1) if other == state else (0, 1)
        row.append(minus(one, chances.get(other, (0, 1))))
    return row


def outside_part(chain, values, asked, paid, state):
    """What an asked state pays, and what the ends that are not asked add to the mean."""
    total = paid[state]
    for end, chance in moves(chain, state, 0):
        if end not in asked:
            total = plus(total, times(chance, values[end]))
    return total
