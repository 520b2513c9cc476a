"""The best chances within a number of steps (point 24)."""

from bestodds.ratios import is_better
from bestodds.sure import choices_on_way
from bestodds.systems import mean


def bounded_chances(system, allowed, targets, steps, most):
    """The list of the best chances, and the list of the policies for 1, 2, .. steps left."""
    usable = choices_on_way(system, allowed, targets)
    values = [(1, 1) if state in targets else (0, 1) for state in range(len(system))]
    policies = []
    for _ in range(steps):
        policy = first_best(system, usable, values, most)
        # Where the wish has ended, no choice matters and the chance stays 1 or 0.
        values = [mean(system, state, policy[state], values) if numbers else values[state]
                  for state, numbers in enumerate(usable)]
        policies.append(policy)
    return (values, policies)


def first_best(system, usable, values, most):
    """For each state the first usable choice with the best mean of the values, 0 if none is usable."""
    policy = []
    for state, numbers in enumerate(usable):
        found = 0
        best = None
        for number in numbers:
            here = mean(system, state, number, values)
            if best is None or is_better(here, best, most):
                best = here
                found = number
        policy.append(found)
    return tuple(policy)
