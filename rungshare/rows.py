"""Rows of moments, and shares: pairs of numbers and weights."""

from rungshare.bare import NOUGHT, added, is_below, raised, row_sum, timed
from rungshare.errors import BadFraction, BadPoly, BadRow, BadShare
from rungshare.polys import is_poly
from rungshare.ratios import are_fractions, is_fraction, is_positive, need_between

MOST_MOMENTS = 9
MOST_PAIRS = 6


def is_row(thing):
    return are_fractions(thing, MOST_MOMENTS) and len(thing) > 0 and thing[0][0] > 0


def need_row(thing):
    if not is_row(thing):
        raise BadRow(thing)
    return thing


def is_weighed(thing):
    """Whether it is a pair of a number and a weight."""
    return isinstance(thing, tuple) and len(thing) == 2 and is_fraction(thing[0]) and is_positive(thing[1])


def is_share(thing):
    if not isinstance(thing, tuple) or len(thing) < 1 or len(thing) > MOST_PAIRS:
        return False
    if not all([is_weighed(pair) for pair in thing]):
        return False
    return all([is_below(one[0], other[0]) for one, other in zip(thing, thing[1:])])


def need_share(thing):
    if not is_share(thing):
        raise BadShare(thing)
    return thing


def moment_of(share, number):
    whole = NOUGHT
    for place, weight in share:
        whole = added(whole, timed(weight, raised(place, number)))
    return whole


def moments(share, top):
    need_share(share)
    need_between(top, 0, MOST_MOMENTS - 1)
    return tuple([moment_of(share, number) for number in range(top + 1)])


def sum_by(row, poly):
    need_row(row)
    if not is_poly(poly) or len(poly) > len(row):
        raise BadPoly(poly)
    return row_sum(row, poly)


def need_from_nought(thing):
    if not is_fraction(thing) or thing[0] < 0:
        raise BadFraction(thing)
    return thing


def mixed(row, other, near, far):
    need_row(row)
    if not is_row(other) or len(other) != len(row):
        raise BadRow(other)
    need_from_nought(near)
    if need_from_nought(far) == NOUGHT and near == NOUGHT:
        raise BadFraction(far)
    return tuple([added(timed(near, one), timed(far, two)) for one, two in zip(row, other)])
