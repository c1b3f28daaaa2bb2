"""Sums of the worths of a polynomial at all roots of another one."""

from rungshare.bare import paired_sum, slope
from rungshare.divide import common_of
from rungshare.errors import BadPoly
from rungshare.nears import series_of
from rungshare.polys import is_poly, need_poly
from rungshare.ratios import need_between

MOST_ROOTS = 5
LAST_POWER = 12


def need_unlike(poly):
    """A polynomial of a degree from 1 to 5 whose roots are unlike."""
    if not is_poly(poly) or len(poly) < 2 or len(poly) > MOST_ROOTS + 1:
        raise BadPoly(poly)
    if len(common_of(poly, slope(poly))) > 1:
        raise BadPoly(poly)


def sums_to(poly, top):
    """The root sums of the powers 0 to top; none, if top is -1."""
    # The slope divided by the polynomial is the sum, over all roots, of 1 divided by what x is more.
    return series_of(slope(poly), poly, top)


def root_sum(poly, other):
    need_unlike(poly)
    return paired_sum(need_poly(other), sums_to(poly, len(other) - 1))


def power_sums(poly, top):
    need_unlike(poly)
    return sums_to(poly, need_between(top, 0, LAST_POWER))
