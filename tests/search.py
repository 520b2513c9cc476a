"""Slow and plain reckonings over all policies, and systems to try them on; no tests.

Nothing here uses the package.
"""

from fractions import Fraction
from itertools import product


def random_system(random, states, choices, ends, cost=5, weight=4):
    """A system with this many states and up to so many choices and ends."""
    return tuple(tuple(random_choice(random, states, ends, cost, weight)
                       for _ in range(random.randint(1, choices))) for _ in range(states))


def random_choice(random, states, ends, cost, weight):
    many = random.randint(1, min(ends, states))
    return (random.randint(0, cost),
            tuple((end, random.randint(1, weight))
                  for end in sorted(random.sample(range(states), many))))


def full_system(random, states, cost=1000, weight=1000):
    """A system of states with six choices of six ends."""
    return tuple(tuple((random.randint(0, cost),
                        tuple((end, random.randint(1, weight))
                              for end in sorted(random.sample(range(states), 6))))
                       for _ in range(6)) for _ in range(states))


def some_states(random, states):
    """A set of states in any order, perhaps empty, perhaps all."""
    return random.sample(range(states), random.randint(0, states))


def all_policies(system):
    return product(*[range(len(choices)) for choices in system])


def followers(system, policy, allowed, targets):
    """For each state the set of its next states; none where the wish has ended."""
    return [{end for end, _ in system[state][policy[state]][1]}
            if state in allowed and state not in targets else set()
            for state in range(len(system))]


def reached(follow, start):
    """The set of the states that are reached from the start, itself among them."""
    seen = {start}
    while True:
        more = seen.union(*[follow[state] for state in seen])
        if more == seen:
            return seen
        seen = more


def hopes(follow, targets):
    """The set of the states from which a target is reached."""
    return {state for state in range(len(follow)) if reached(follow, state) & set(targets)}


def sure_sets(system, allowed, targets):
    """The four sets of point 9 by their words, over all policies."""
    states = set(range(len(system)))
    found = {"possible": set(), "avoidable": set(), "attainable": set(), "certain": set(states)}
    for policy in all_policies(system):
        follow = followers(system, policy, allowed, targets)
        some = hopes(follow, targets)
        sure = {state for state in states if reached(follow, state) <= some}
        found["possible"] |= some
        found["avoidable"] |= states - some
        found["attainable"] |= sure
        found["certain"] &= sure
    return {name: sorted(found[name]) for name in found}


def subsets(states):
    return [[state for state, is_in in zip(range(states), marks) if is_in]
            for marks in product((False, True), repeat=states)]


def maximal_parts(system):
    """The maximal closed parts by their words, over all sets of states."""
    parts = []
    for members in subsets(len(system)):
        staying = {state: tuple(number for number, (_, ends) in enumerate(system[state])
                                if {end for end, _ in ends} <= set(members))
                   for state in members}
        follow = [{end for number in staying.get(state, ()) for end, _ in system[state][number][1]}
                  for state in range(len(system))]
        if members and all(staying.values()) and all(
                reached(follow, state) == set(members) for state in members):
            parts.append(staying)
    largest = [part for part in parts
               if not any(set(part) < set(other) for other in parts)]
    return sorted(sorted(part.items()) for part in largest)


def pair(value):
    """A Fraction, or None, as the package writes it."""
    return None if value is None else (value.numerator, value.denominator)


def chances_of(system, state, choice):
    """The dict of the ends of a choice and their chances."""
    ends = dict(system[state][choice][1])
    return {end: Fraction(weight, sum(ends.values())) for end, weight in ends.items()}


def mean_over(system, state, choice, values):
    return sum(chance * values[end] for end, chance in chances_of(system, state, choice).items())


def gauss(rows, right):
    """The one solution of linear equations of Fractions with just one."""
    table = [[*row, value] for row, value in zip(rows, right)]
    for at in range(len(table)):
        place = next(k for k in range(at, len(table)) if table[k][at] != 0)
        table[at], table[place] = table[place], table[at]
        table[at] = [x / table[at][at] for x in table[at]]
        for k in range(len(table)):
            if k != at:
                table[k] = [x - table[k][at] * y for x, y in zip(table[k], table[at])]
    return [row[-1] for row in table]


def fixed(system, policy, known, paid):
    """The values of all states: the known ones, elsewhere what is paid plus the mean of the ends."""
    rows, right = [], []
    for state in range(len(system)):
        row = [Fraction(other == state) for other in range(len(system))]
        if state not in known:
            for end, chance in chances_of(system, state, policy[state]).items():
                row[end] -= chance
        rows.append(row)
        right.append(Fraction(known.get(state, paid[state])))
    return gauss(rows, right)


def chain_chances(system, policy, allowed, targets):
    """The chances of a wish with a policy."""
    some = hopes(followers(system, policy, allowed, targets), targets)
    known = {state: int(state in targets) for state in range(len(system))
             if state in targets or state not in some}
    return fixed(system, policy, known, [0] * len(system))


def chain_costs(system, policy, targets):
    """The costs until the targets with a policy, or None."""
    states = range(len(system))
    chances = chain_chances(system, policy, states, targets)
    known = {state: 0 for state in states if state in targets or chances[state] != 1}
    paid = [system[state][policy[state]][0] for state in states]
    costs = fixed(system, policy, known, paid)
    return [cost if chance == 1 else None for cost, chance in zip(costs, chances)]


def chain_averages(system, policy):
    """The costs in the long run with a policy: shares of time in the closed classes."""
    states = range(len(system))
    follow = followers(system, policy, states, [])
    known = {}
    for state in states:
        members = sorted(reached(follow, state))
        if all(reached(follow, member) == set(members) for member in members):
            shares = shares_of_time(system, policy, members)
            known[state] = sum(share * system[member][policy[member]][0]
                               for share, member in zip(shares, members))
    return fixed(system, policy, known, [0] * len(system))


def shares_of_time(system, policy, members):
    """How often each member of a closed class is visited in the long run."""
    rows = [[chances_of(system, other, policy[other]).get(member, 0) - Fraction(other == member)
             for other in members] for member in members]
    # One of the equations follows from the others, the sum of the shares stands in its place.
    return gauss([[Fraction(1)] * len(members)] + rows[1:],
                 [Fraction(1)] + [Fraction(0)] * (len(members) - 1))


def best_over_policies(system, allowed, targets, most):
    """The best chance from each state, each over all policies."""
    found = [chain_chances(system, policy, allowed, targets) for policy in all_policies(system)]
    return [max(values) if most else min(values) for values in zip(*found)]


def keeps_to_form(system, allowed, targets, certificate):
    """Condition 1 of point 17, and what a certificate of chances is."""
    values, policy, ranks = certificate
    if {len(values), len(policy), len(ranks)} != {len(system)} or min(ranks, default=0) < 0:
        return False
    if any(number not in range(len(choices)) for number, choices in zip(policy, system)):
        return False
    for state, value in enumerate(values):
        if state in targets and value != (1, 1):
            return False
        if state not in targets and state not in allowed and value != (0, 1):
            return False
    return all(0 <= Fraction(*value) <= 1 for value in values)


def accepts_chances(system, allowed, targets, most, certificate):
    """Whether a certificate of chances is accepted, by the words of points 17 and 18."""
    if not keeps_to_form(system, allowed, targets, certificate):
        return False
    values, policy, ranks = certificate
    values = [Fraction(*value) for value in values]
    for state in set(allowed) - set(targets):
        means = [mean_over(system, state, number, values) for number in range(len(system[state]))]
        ends = [[end for end, _ in choice[1]] for choice in system[state]]
        lower = [[end for end in line if ranks[end] < ranks[state]] for line in ends]
        if most:
            holds = max(means) <= values[state] and (values[state] == 0 or (
                means[policy[state]] == values[state]
                and any(values[end] > 0 for end in lower[policy[state]])))
        else:
            holds = min(means) >= values[state] == means[policy[state]] and (values[state] == 0 or all(
                any(end in targets or values[end] == 0 or end in down for end in line)
                for line, down in zip(ends, lower)))
        if not holds:
            return False
    return True


def best_costs_over_policies(system, targets):
    """For True and False the best cost from each state, each over all policies, None if infinite."""
    found = {True: [], False: []}
    for costs in zip(*[chain_costs(system, policy, targets) for policy in all_policies(system)]):
        finite = [cost for cost in costs if cost is not None]
        found[True].append(None if None in costs else max(finite))
        found[False].append(min(finite, default=None))
    return found


def best_averages_over_policies(system):
    """For True and False the best cost in the long run from each state, each over all policies."""
    found = list(zip(*[chain_averages(system, policy) for policy in all_policies(system)]))
    return {True: [max(values) for values in found], False: [min(values) for values in found]}


def is_a_policy(system, policy):
    return len(policy) == len(system) and all(
        number in range(len(choices)) for number, choices in zip(policy, system))


def accepts_costs(system, targets, most, finite, certificate):
    """Whether a certificate of costs is accepted, by the words of point 22.

    The finite states are the attainable ones for the least costs, the certain ones for the greatest.
    """
    costs, policy, ranks = certificate
    if not len(costs) == len(ranks) == len(system) or not is_a_policy(system, policy) or min(ranks) < 0:
        return False
    if {state for state, cost in enumerate(costs) if cost is not None} != set(finite):
        return False
    if any(costs[state] != (0, 1) for state in targets):
        return False
    costs = [None if cost is None else Fraction(*cost) for cost in costs]
    for state in set(finite) - set(targets):
        paid = {number: cost + mean_over(system, state, number, costs)
                for number, (cost, ends) in enumerate(system[state])
                if all(costs[end] is not None for end, _ in ends)}
        if paid.get(policy[state]) != costs[state]:
            return False
        if not any(end in targets or ranks[end] < ranks[state] for end, _ in system[state][policy[state]][1]):
            return False
        if any(here > costs[state] if most else here < costs[state] for here in paid.values()):
            return False
    return True


def accepts_averages(system, most, certificate):
    """Whether a certificate of costs in the long run is accepted, by the words of point 26."""
    gains, potentials, policy = certificate
    if not len(gains) == len(potentials) == len(system) or not is_a_policy(system, policy):
        return False
    # For the least costs all signs are turned round.
    sign = 1 if most else -1
    gains = [sign * Fraction(*gain) for gain in gains]
    potentials = [sign * Fraction(*potential) for potential in potentials]
    for state, choices in enumerate(system):
        means = [mean_over(system, state, number, gains) for number in range(len(choices))]
        sums = [sign * choices[number][0] + mean_over(system, state, number, potentials)
                for number in range(len(choices))]
        if max(means) > gains[state] or means[policy[state]] != gains[state]:
            return False
        most_sum = max(total for total, here in zip(sums, means) if here == gains[state])
        if not most_sum <= gains[state] + potentials[state] == sums[policy[state]]:
            return False
    return True


def backwards(system, allowed, targets, steps, most):
    """The chances and the policies of point 24, by its words."""
    states = range(len(system))
    values = [Fraction(state in targets) for state in states]
    policies = []
    for _ in range(steps):
        fresh, policy = [], []
        for state in states:
            means = [mean_over(system, state, number, values) for number in range(len(system[state]))]
            best = max(means) if most else min(means)
            ended = state in targets or state not in allowed
            fresh.append(Fraction(state in targets) if ended else best)
            policy.append(0 if ended else means.index(best))
        values = fresh
        policies.append(tuple(policy))
    return values, policies
