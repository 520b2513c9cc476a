"""The states in which a wish is possible, avoidable, attainable, certain (points 8 and 9)."""


def possible(system, allowed, targets):
    """The states from which some way of choosing has a chance above 0."""
    usable = choices_on_way(system, allowed, targets)
    return found_states(levels(system, usable, targets, False))


def avoidable(system, allowed, targets):
    """The states from which some way of choosing has the chance 0."""
    usable = choices_on_way(system, allowed, targets)
    # Where each choice may come nearer to a target, every way of choosing has a chance.
    near = levels(system, usable, targets, True)
    return [state for state, level in enumerate(near) if level is None]


def attainable(system, allowed, targets):
    """The states from which some way of choosing has the chance 1."""
    usable = choices_on_way(system, allowed, targets)
    while True:
        found = levels(system, usable, targets, False)
        # A choice that may lead to where no target can be reached has to be given up.
        kept = []
        for choices, numbers in zip(system, usable):
            kept.append([number for number in numbers if stays_in(choices[number], found)])
        if kept == usable:
            return found_states(found)
        usable = kept


def certain(system, allowed, targets):
    """The states from which every way of choosing has the chance 1."""
    usable = choices_on_way(system, allowed, targets)
    # A way of choosing falls short of 1 just if it may come to where the rest can be avoided.
    doubtful = levels(system, usable, avoidable(system, allowed, targets), False)
    return [state for state, level in enumerate(doubtful) if level is None]


def choices_on_way(system, allowed, targets):
    """For each state the numbers of its choices, none if it ends the wish (point 8)."""
    usable = []
    for state, choices in enumerate(system):
        on_way = state in allowed and state not in targets
        usable.append(list(range(len(choices))) if on_way else [])
    return usable


def levels(system, usable, goals, every):
    """For each state the number of the round in which it is found, or None.

    The goals are found in round 0, and then each state that joins what has been found.
    """
    found = [None] * len(system)
    for state in goals:
        found[state] = 0
    rounds = 0
    while rounds in found:
        rounds += 1
        fresh = [state for state, level in enumerate(found)
                 if level is None and joins(system[state], usable[state], found, every)]
        for state in fresh:
            found[state] = rounds
    return found


def distances(system, usable, targets, policy):
    """For each state how far the policy is from a target at least, 0 where it comes to none.

    The policy is followed where a state has usable choices.
    """
    followed = [[policy[state]] if numbers else [] for state, numbers in enumerate(usable)]
    found = levels(system, followed, targets, False)
    return [0 if level is None else level for level in found]


def joins(choices, numbers, found, every):
    """True if one of the choices with these numbers, or every one, leads to what is found."""
    hits = [leads_into(choices[number], found) for number in numbers]
    if every:
        # A state without usable choices does not move, so it joins nothing.
        return numbers != [] and all(hits)
    return any(hits)


def leads_into(choice, found):
    """True if some end of the choice is found."""
    return any([found[end] is not None for end, _ in choice[1]])


def stays_in(choice, found):
    """True if all ends of the choice are found."""
    return all([found[end] is not None for end, _ in choice[1]])


def found_states(found):
    """The states that are found."""
    return [state for state, level in enumerate(found) if level is not None]
