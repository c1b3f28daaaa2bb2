"""Polynomials: tuples of at most 12 fractions, that of the power 0 first, the last one not nought."""

from rungshare.bare import NOUGHT, poly_added, poly_at, poly_lessened, poly_timed, trimmed
from rungshare.errors import BadFractions, BadPoly, TooMany
from rungshare.ratios import are_fractions, need_fraction

MOST = 12


def is_poly(thing):
    return are_fractions(thing, MOST) and (len(thing) == 0 or thing[-1] != NOUGHT)


def need_poly(thing):
    if not is_poly(thing):
        raise BadPoly(thing)
    return thing


def poly_by(some):
    if not are_fractions(some, MOST):
        raise BadFractions(some)
    return trimmed(some)


def poly_sum(one, other):
    return poly_added(need_poly(one), need_poly(other))


def poly_less(one, other):
    return poly_lessened(need_poly(one), need_poly(other))


def product(one, other):
    whole = poly_timed(need_poly(one), need_poly(other))
    if len(whole) > MOST:
        raise TooMany(MOST)
    return whole


def worth_at(poly, mark):
    return poly_at(need_poly(poly), need_fraction(mark))
