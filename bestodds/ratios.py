"""Fractions: tuples (n, d) in lowest terms with d at least 1 (points 1 and 2)."""

from math import gcd

from bestodds.errors import InvalidRatio

MOST_DIGITS = 30


def ratio(n, d):
    """The fraction n divided by d, which is not 0."""
    shared = gcd(n, d)
    if d < 0:
        shared = -shared
    return (n // shared, d // shared)


def plus(a, b):
    """The sum of two fractions."""
    return ratio(a[0] * b[1] + b[0] * a[1], a[1] * b[1])


def minus(a, b):
    """The fraction a less the fraction b."""
    return ratio(a[0] * b[1] - b[0] * a[1], a[1] * b[1])


def times(a, b):
    """The product of two fractions."""
    return ratio(a[0] * b[0], a[1] * b[1])


def over(a, b):
    """The fraction a divided by the fraction b, which is not 0."""
    return ratio(a[0] * b[1], a[1] * b[0])


def is_less(a, b):
    """True if a is less than b, otherwise False."""
    return a[0] * b[1] < b[0] * a[1]


def is_better(a, b, most):
    """True if a is greater than b (most is True) or less than b (most is False)."""
    return is_less(b, a) if most else is_less(a, b)


def is_fraction(pair):
    """True if a pair of integers is in lowest terms, with d at least 1."""
    n, d = pair
    return d >= 1 and gcd(n, d) == 1


def format_ratio(a):
    """The text of a fraction: n/d, or n if d is 1."""
    n, d = a
    text = written_number(abs(n))
    if n < 0:
        text = "-" + text
    if d == 1:
        return text
    return text + "/" + written_number(d)


def written_number(n):
    """The decimal digits of n, which is at least 0."""
    # In blocks, because str refuses integers of more than 4300 digits.
    block = 10 ** 64
    parts = []
    while n >= block:
        n, rest = divmod(n, block)
        parts.append(str(rest).zfill(64))
    parts.append(str(n))
    return "".join(reversed(parts))


def parse_ratio(text):
    """The fraction that a text says; raises InvalidRatio if it says none."""
    head, slash, tail = text.partition("/")
    if slash == "":
        tail = "1"
    digits = head.removeprefix("-")
    written = is_number(digits, MOST_DIGITS) and is_number(tail, MOST_DIGITS)
    if not written or head == "-0" or tail == "0":
        raise InvalidRatio(f"not a fraction: {text}")
    return ratio(int(head), int(tail))


def is_number(text, most):
    """True if the text is 1 to `most` decimal digits without leading zeros."""
    if not (text.isascii() and text.isdigit()):
        return False
    return len(text) <= most and (text == "0" or text[0] != "0")
