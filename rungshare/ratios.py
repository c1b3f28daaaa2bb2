"""Fractions: pairs of integers in least terms, the second one from 1 on."""

from math import gcd

from rungshare.bare import added, divided, is_below, lessened, NOUGHT, raised, reduced, timed
from rungshare.errors import BadFraction, BadNumber


def is_whole(thing):
    """Whether it is an integer; True and False are none."""
    return isinstance(thing, int) and not isinstance(thing, bool)


def is_between(thing, low, high):
    """Whether it is an integer from low to high."""
    return is_whole(thing) and low <= thing and thing <= high


def is_fraction(thing):
    if not isinstance(thing, tuple) or len(thing) != 2:
        return False
    top, bottom = thing
    return is_whole(top) and is_whole(bottom) and bottom >= 1 and gcd(top, bottom) == 1


def is_positive(thing):
    """Whether it is a fraction above nought."""
    return is_fraction(thing) and thing[0] > 0


def are_fractions(thing, most):
    """Whether it is a tuple of at most so many fractions."""
    return isinstance(thing, tuple) and len(thing) <= most and all([is_fraction(part) for part in thing])


def need_fraction(thing):
    if not is_fraction(thing):
        raise BadFraction(thing)
    return thing


def need_positive(thing):
    if not is_positive(thing):
        raise BadFraction(thing)
    return thing


def need_between(thing, low, high):
    if not is_between(thing, low, high):
        raise BadNumber(thing)
    return thing


def ratio(top, bottom):
    if not is_whole(top):
        raise BadNumber(top)
    if not is_whole(bottom) or bottom == 0:
        raise BadNumber(bottom)
    return reduced(top, bottom)


def plus(one, other):
    return added(need_fraction(one), need_fraction(other))


def less(one, other):
    return lessened(need_fraction(one), need_fraction(other))


def times(one, other):
    return timed(need_fraction(one), need_fraction(other))


def over(one, other):
    need_fraction(one)
    if need_fraction(other) == NOUGHT:
        raise BadFraction(other)
    return divided(one, other)


def is_less(one, other):
    return is_below(need_fraction(one), need_fraction(other))


def power(one, number):
    return raised(need_fraction(one), need_between(number, 0, 20))
