"""Exact fractions: pairs (top, bottom) without a common divisor, bottom above 0."""

from math import gcd

from levelkind.values import integers


def fraction_of(value):
    """The value as a fraction, or None for what is none."""
    pair = integers(value, 2)
    if pair is None or pair[1] < 1 or gcd(pair[0], pair[1]) != 1:
        return None
    return pair


def ratio(top, bottom):
    """The fraction top by bottom; the bottom is above 0."""
    common = gcd(top, bottom)
    return (top // common, bottom // common)


def added(one, other):
    """The sum of two fractions."""
    common = gcd(one[1], other[1])
    top = one[0] * (other[1] // common) + other[0] * (one[1] // common)
    return ratio(top, one[1] // common * other[1])


def total(fractions):
    """The sum of the fractions."""
    # Neighbours are added first: one sum that takes up all in turn would carry
    # its long bottom through every step.
    rows = [(0, 1)] + fractions
    while len(rows) > 1:
        pairs = [added(rows[k], rows[k + 1]) for k in range(0, len(rows) - 1, 2)]
        rows = pairs + rows[2 * len(pairs):]
    return rows[0]
