"""Polynomials divided, and what they have in common."""

from rungshare.bare import monic, poly_divided, slope, whole_poly, whole_rest, without_common
from rungshare.errors import BadPoly
from rungshare.polys import need_poly


def need_divisor(poly):
    """A polynomial that is not ()."""
    if need_poly(poly) == ():
        raise BadPoly(poly)
    return poly


def quotient_of(one, other):
    return poly_divided(need_poly(one), need_divisor(other))[0]


def rest_of(one, other):
    return poly_divided(need_poly(one), need_divisor(other))[1]


def common_of(one, other):
    """The common part of two polynomials, not both ()."""
    # Integers without a common divisor keep the rests short; fractions would grow at each step.
    left = whole_poly(one)[1]
    right = whole_poly(other)[1]
    while right:
        left, right = right, without_common(whole_rest(left, right)[1])[1]
    return monic(tuple([(part, 1) for part in left]))


def common_part(one, other):
    need_poly(one)
    if need_poly(other) == () and one == ():
        raise BadPoly(other)
    return common_of(one, other)


def slope_of(poly):
    return slope(need_poly(poly))


def plain_of(poly):
    """The plain part of a polynomial that is not ()."""
    return monic(poly_divided(poly, common_of(poly, slope(poly)))[0])


def plain_part(poly):
    return plain_of(need_divisor(poly))
