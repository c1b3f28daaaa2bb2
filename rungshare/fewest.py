"""Rules of as few points as can be, and the polynomial that has their parts at roots that are no fractions."""

from rungshare.bare import ONE, divided, poly_divided, poly_lessened, poly_scaled, poly_timed, slope
from rungshare.errors import BadNumber
from rungshare.nears import near_fractions_of
from rungshare.polys import need_poly
from rungshare.ratios import need_between
from rungshare.rows import need_row
from rungshare.rowshares import shared_ladder
from rungshare.rules import rule_at
from rungshare.signs import rational_roots


def need_many(row, number):
    """A number of points for which the row may be long enough."""
    return need_between(number, 1, len(need_row(row)) // 2)


def near_at(row, number):
    """The near fraction of this number, of a row long enough."""
    ladder = shared_ladder(row)
    if number > len(ladder[1]):
        raise BadNumber(number)
    return near_fractions_of(ladder)[number]


def fewest_rule(row, number):
    need_many(row, number)
    points = rational_roots(near_at(row, number)[1])
    return rule_at(row, points) if len(points) == number else None


def inverse_by(poly, by):
    """The polynomial of a lesser degree than by that, times poly, has the rest 1 by it: they have no common root."""
    left, right = by, poly
    known, found = (), (ONE,)
    while len(right) > 1:
        quotient, rest = poly_divided(left, right)
        left, right = right, rest
        known, found = found, poly_lessened(known, poly_timed(quotient, found))
    return poly_scaled(found, divided(ONE, right[0]))


def root_rule_by(row, number):
    """The root rule of a row and a number that are refused only by the row's ladder."""
    top, bottom = near_at(row, number)
    # Each part is the worth of the top at its root, divided by that of the slope of the bottom.
    parts = poly_divided(poly_timed(top, inverse_by(slope(bottom), bottom)), bottom)[1]
    return (bottom, parts)


def root_rule(row, number):
    need_many(row, number)
    return root_rule_by(row, number)


def check_root_rule(row, number, poly, other):
    need_many(row, number)
    need_poly(poly)
    need_poly(other)
    return root_rule_by(row, number) == (poly, other)
