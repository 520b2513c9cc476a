"""Slow and plain reckonings over all policies, and systems to try them on; no tests.

Nothing here uses the package.
"""

from itertools import product


def random_system(random, states, choices, ends, cost=5, weight=4):
    """A system with this many states and up to so many choices and ends."""
    return tuple(tuple(random_choice(random, states, ends, cost, weight)
                       for _ in range(random.randint(1, choices))) for _ in range(states))


def random_choice(random, states, ends, cost, weight):
    many = random.randint(1, min(ends, states))
    return (random.randint(0, cost),
            tuple((end, random.randint(1, weight))
                  for end in sorted(random.sample(range(states), many))))


def full_system(random, states, cost=1000, weight=1000):
    """A system of states with six choices of six ends."""
    return tuple(tuple((random.randint(0, cost),
                        tuple((end, random.randint(1, weight))
                              for end in sorted(random.sample(range(states), 6))))
                       for _ in range(6)) for _ in range(states))


def some_states(random, states):
    """A set of states in any order, perhaps empty, perhaps all."""
    return random.sample(range(states), random.randint(0, states))


def all_policies(system):
    return product(*[range(len(choices)) for choices in system])


def followers(system, policy, allowed, targets):
    """For each state the set of its next states; none where the wish has ended."""
    return [{end for end, _ in system[state][policy[state]][1]}
            if state in allowed and state not in targets else set()
            for state in range(len(system))]


def reached(follow, start):
    """The set of the states that are reached from the start, itself among them."""
    seen = {start}
    while True:
        more = seen.union(*[follow[state] for state in seen])
        if more == seen:
            return seen
        seen = more


def hopes(follow, targets):
    """The set of the states from which a target is reached."""
    return {state for state in range(len(follow)) if reached(follow, state) & set(targets)}


def sure_sets(system, allowed, targets):
    """The four sets of point 9 by their words, over all policies."""
    states = set(range(len(system)))
    found = {"possible": set(), "avoidable": set(), "attainable": set(), "certain": set(states)}
    for policy in all_policies(system):
        follow = followers(system, policy, allowed, targets)
        some = hopes(follow, targets)
        sure = {state for state in states if reached(follow, state) <= some}
        found["possible"] |= some
        found["avoidable"] |= states - some
        found["attainable"] |= sure
        found["certain"] &= sure
    return {name: sorted(found[name]) for name in found}


def subsets(states):
    return [[state for state, is_in in zip(range(states), marks) if is_in]
            for marks in product((False, True), repeat=states)]


def maximal_parts(system):
    """The maximal closed parts by their words, over all sets of states."""
    parts = []
    for members in subsets(len(system)):
        staying = {state: tuple(number for number, (_, ends) in enumerate(system[state])
                                if {end for end, _ in ends} <= set(members))
                   for state in members}
        follow = [{end for number in staying.get(state, ()) for end, _ in system[state][number][1]}
                  for state in range(len(system))]
        if members and all(staying.values()) and all(
                reached(follow, state) == set(members) for state in members):
            parts.append(staying)
    largest = [part for part in parts
               if not any(set(part) < set(other) for other in parts)]
    return sorted(sorted(part.items()) for part in largest)
