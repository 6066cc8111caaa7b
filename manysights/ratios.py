"""Calculations with ratios: pairs of a top and a bottom."""

from math import gcd


def ratio(top, bottom):
    """Return the ratio that stands for top divided by bottom."""
    shared = gcd(top, bottom)
    if bottom < 0:
        shared = -shared
    return (top // shared, bottom // shared)


def added(one, two):
    """Return the sum of two ratios."""
    return ratio(one[0] * two[1] + two[0] * one[1], one[1] * two[1])


def multiplied(one, two):
    """Return the product of two ratios."""
    return ratio(one[0] * two[0], one[1] * two[1])


def divided(one, two):
    """Return the first ratio divided by the second one."""
    return ratio(one[0] * two[1], one[1] * two[0])


def compared(one, two):
    """Return -1, 0 or 1 if the first number is less than, equal to or greater than the second one."""
    left, right = one[0] * two[1], two[0] * one[1]
    if left == right:
        return 0
    return -1 if left < right else 1
