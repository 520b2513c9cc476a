"""Square systems of linear equations with fractions, solved exactly (point 11)."""

from math import lcm

from bestodds.ratios import ratio


def solve(rows, right):
    """The list of the values of the unknowns, or None if there is not exactly one solution."""
    table = [whole_row([*row, value]) for row, value in zip(rows, right)]
    steps = []
    before = 1
    while table:
        at = first_with_unknown(table)
        if at is None:
            return None
        step = table[at]
        steps.append(step)
        table = [without_unknown(row, step, before) for row in table[:at] + table[at + 1:]]
        before = step[0]
    return substituted(steps, before)


def whole_row(row):
    """An equation multiplied so that its numbers are integers."""
    common = 1
    for _, d in row:
        common = lcm(common, d)
    return [n * (common // d) for n, d in row]


def first_with_unknown(table):
    """The place of the first equation in which the first unknown occurs, or None."""
    for at, row in enumerate(table):
        if row[0] != 0:
            return at
    return None


def without_unknown(row, step, before):
    """The equation `row` without its first unknown, by means of the equation `step`."""
    # Each number is a determinant of numbers of the table, so the division by the leading
    # number of the step before leaves no rest. It keeps the integers from growing too long.
    return [(step[0] * mine - row[0] * other) // before
            for mine, other in zip(row[1:], step[1:])]


def substituted(steps, scale):
    """The values of the unknowns, given one equation for each without the unknowns before it."""
    # Multiplied by the last leading number, a determinant of the system, each value is an integer.
    scaled = []
    for step in reversed(steps):
        rest = scale * step[-1] - sum([n * value for n, value in zip(step[1:], scaled)])
        scaled = [rest // step[0]] + scaled
    return [ratio(value, scale) for value in scaled]
