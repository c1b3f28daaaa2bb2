"""Polynomials as sums of rung polynomials."""

from rungshare.bare import lessened, poly_added, poly_at, poly_scaled, poly_timed, timed
from rungshare.errors import BadFractions, BadPoly
from rungshare.ladders import need_ladder, rungs_of
from rungshare.polys import is_poly
from rungshare.ratios import are_fractions, need_between, need_fraction
from rungshare.signs import fraction_changes


def parts_of(polys, poly):
    """The parts of a polynomial that is not longer than there are rung polynomials."""
    left = list(poly)
    for place in reversed(range(len(poly))):
        # The last fraction of each rung polynomial is 1, so what stands there now is the part.
        for k, piece in enumerate(polys[place][:-1]):
            left[k] = lessened(left[k], timed(left[place], piece))
    return tuple(left)


def parts_by(ladder, poly):
    polys = rungs_of(need_ladder(ladder))
    if not is_poly(poly) or len(poly) > len(polys):
        raise BadPoly(poly)
    return parts_of(polys, poly)


def from_parts(ladder, parts):
    polys = rungs_of(need_ladder(ladder))
    if not are_fractions(parts, len(polys)):
        raise BadFractions(parts)
    whole = ()
    for part, poly in zip(parts, polys):
        whole = poly_added(whole, poly_scaled(poly, part))
    return whole


def roots_above(ladder, number, mark):
    polys = rungs_of(need_ladder(ladder))
    need_between(number, 0, len(polys) - 1)
    need_fraction(mark)
    return fraction_changes([poly_at(poly, mark) for poly in polys[:number + 1]])


def product_parts(ladder, number, far):
    polys = rungs_of(need_ladder(ladder))
    need_between(number, 0, len(polys) - 1)
    # A far that is none and a sum that is none are refused alike.
    need_between(far, 0, len(polys) - 1 - number)
    return parts_of(polys, poly_timed(polys[number], polys[far]))
