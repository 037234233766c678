"""Ratios: pairs (numerator, denominator) of integers in lowest terms, the denominator positive."""

from math import gcd

from templates.checks import is_positive, is_tuple


def ratio(numerator, denominator):
    """The ratio of an integer and a positive one."""
    shared = gcd(numerator, denominator)
    return (numerator // shared, denominator // shared)


def is_positive_ratio(value):
    """Whether a value is a ratio that is greater than 0."""
    return is_tuple(value, 2, 2) and all(is_positive(part) for part in value) and gcd(value[0], value[1]) == 1
