"""The maximal closed parts of a system (point 10)."""


def closed_parts(system):
    """The maximal closed parts, each the pairs of a state and the tuple of its choices."""
    usable = [list(range(len(choices))) for choices in system]
    while True:
        reach = [reach_from(system, usable, state) for state in range(len(system))]
        kept = [choices_back(system, usable, reach, state) for state in range(len(system))]
        if kept == usable:
            return parts_of(usable, reach)
        usable = kept


def reach_from(system, usable, start):
    """For each state whether the usable choices may lead to it from the start, itself included."""
    reached = [False] * len(system)
    reached[start] = True
    waiting = [start]
    while waiting:
        state = waiting.pop()
        for number in usable[state]:
            for end, _ in system[state][number][1]:
                if not reached[end]:
                    reached[end] = True
                    waiting.append(end)
    return reached


def choices_back(system, usable, reach, state):
    """The usable choices of a state from all of whose ends it can be reached again."""
    return [number for number in usable[state]
            if all([reach[end][state] for end, _ in system[state][number][1]])]


def parts_of(usable, reach):
    """The parts when each state with a usable choice can be reached from wherever it leads."""
    parts = []
    for state, reached in enumerate(reach):
        members = [other for other, is_in in enumerate(reached) if is_in]
        # Each part is taken once, at its least state.
        if usable[state] and members[0] == state:
            parts.append([(member, tuple(usable[member])) for member in members])
    return parts
