"""Fractions as pairs of whole numbers without a common divisor (point 77)."""

from math import gcd


def ratio(top, bottom):
    """The fraction of the two numbers, of which the second one is at least 1."""
    common = gcd(top, bottom)
    return (top // common, bottom // common)


def added(one, two):
    """The sum of the two fractions."""
    return ratio(one[0] * two[1] + two[0] * one[1], one[1] * two[1])


def multiplied(one, two):
    """The product of the two fractions."""
    return ratio(one[0] * two[0], one[1] * two[1])


def divided(one, two):
    """The quotient of the two fractions, of which the second one is greater than 0."""
    return ratio(one[0] * two[1], one[1] * two[0])


def is_greater(one, two):
    """Whether the first one of the two fractions is greater."""
    return one[0] * two[1] > two[0] * one[1]
