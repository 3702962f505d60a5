"""Fractions: pairs of numbers in lowest terms."""

from math import gcd

from metbefore.wordkinds import is_number


def is_fraction(thing):
    """Whether it is a pair (over, under) in lowest terms, under from 1 on."""
    if not isinstance(thing, tuple) or len(thing) != 2 or not is_number(thing[0]) or not is_number(thing[1]):
        return False
    # Of 0 and under the greatest divisor is under: so 0 is let only as (0, 1).
    return thing[1] > 0 and gcd(thing[0], thing[1]) == 1


def product_of(fractions):
    """The product of the fractions, (1, 1) of none."""
    over, under = 1, 1
    for one in fractions:
        over, under = over * one[0], under * one[1]
    common = gcd(over, under)
    return over // common, under // common


def one_less(fraction):
    """1 less the fraction, which is no greater than 1."""
    over, under = fraction
    # What divides under and under - over divides over, too: these are lowest terms again.
    return under - over, under
