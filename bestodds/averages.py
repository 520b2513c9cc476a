"""The best costs in the long run, their certificates and the judge of these (points 25 to 28)."""

from bestodds.chains import chain_of, costs_of, policy_averages, settled
from bestodds.parts import closed_parts
from bestodds.ratios import is_better, is_fraction, minus, plus
from bestodds.systems import cost_and_mean, is_policy, mean


def best_averages(system, most):
    """A certificate (gains, potentials, policy) of the best costs in the long run."""
    better = [0] * len(system)
    policy = None
    while better != policy:
        policy = better
        gains = policy_averages(system, policy)
        potentials = policy_potentials(system, policy, gains)
        better = [better_choice(system, state, policy[state], gains, potentials, most)
                  for state in range(len(system))]
    return (tuple(gains), tuple(potentials), tuple(policy))


def policy_potentials(system, policy, gains):
    """For each state the cost of the policy ahead, beyond its gain for each step."""
    chain = chain_of(system, policy)
    # A potential of 0 in the least state of each closed class: where the policy stays as it is,
    # the potentials stay too, and so the search for a better policy does not come back to one.
    least = [part[0][0] for part in closed_parts(chain)]
    others = [state for state in range(len(chain)) if state not in least]
    beyond = [minus(cost, gain) for cost, gain in zip(costs_of(chain), gains)]
    return settled(chain, [(0, 1)] * len(chain), others, beyond)


def better_choice(system, state, number, gains, potentials, most):
    """The best choice of a state if it is better than choice `number`, otherwise this number."""
    means = means_of_gains(system, state, gains)
    best = gains[state]
    found = number
    for other, here in enumerate(means):
        if is_better(here, best, most):
            best = here
            found = other
    if best != gains[state]:
        return found
    best = plus(gains[state], potentials[state])
    for other in keeping(means, gains[state]):
        here = cost_and_mean(system, state, other, potentials)
        if is_better(here, best, most):
            best = here
            found = other
    return found


def means_of_gains(system, state, gains):
    """For each choice of a state the mean of the gains of its ends."""
    return [mean(system, state, number, gains) for number in range(len(system[state]))]


def keeping(means, gain):
    """The numbers of the choices for which the mean of the gains is the gain of the state."""
    return [number for number, here in enumerate(means) if here == gain]


def judge_averages(system, most, certificate):
    """True if the certificate is accepted (point 26), otherwise False."""
    gains, potentials, policy = certificate
    if len(gains) != len(system) or len(potentials) != len(system):
        return False
    if not is_policy(system, policy):
        return False
    if not all([is_fraction(value) for value in [*gains, *potentials]]):
        return False
    return all([is_accepted(system, state, most, certificate) for state in range(len(system))])


def is_accepted(system, state, most, certificate):
    """True if the conditions of point 26 hold in a state."""
    gains, potentials, policy = certificate
    means = means_of_gains(system, state, gains)
    if any([is_better(here, gains[state], most) for here in means]):
        return False
    best = plus(gains[state], potentials[state])
    sums = {number: cost_and_mean(system, state, number, potentials)
            for number in keeping(means, gains[state])}
    if any([is_better(here, best, most) for here in sums.values()]):
        return False
    # A choice whose mean of the gains is not the gain of the state has no sum.
    return sums.get(policy[state]) == best
