"""Tones of a string, and strings as shares."""

from rungshare.bare import ONE, divided, opposite, poly_added, poly_at, poly_scaled, poly_timed, slope
from rungshare.errors import BadShare
from rungshare.ratios import need_fraction
from rungshare.rows import need_share
from rungshare.signs import fraction_changes, rational_roots
from rungshare.strings import MOST_BEADS, need_string, polys_by, shape_by
from rungshare.unstring import taken_apart


def share_of_string(string):
    height, slant = polys_by(need_string(string))
    tones = rational_roots(slant)
    if len(tones) < len(height):
        return None
    steep = slope(slant)
    return tuple([(tone, opposite(divided(poly_at(height, tone), poly_at(steep, tone)))) for tone in tones])


def polys_of_share(share):
    """The polynomials of the string of a share that is known to have one."""
    height = ()
    slant = (ONE,)
    for number, weight in share:
        part = divided(ONE, number)
        # The slant is 1 at 0, and nought at each number.
        factor = (ONE, opposite(part))
        height = poly_added(poly_timed(height, factor), poly_scaled(slant, divided(weight, number)))
        slant = poly_timed(slant, factor)
    return (height, slant)


def string_of_share(share):
    need_share(share)
    if len(share) > MOST_BEADS or share[0][0][0] <= 0:
        raise BadShare(share)
    height, slant = polys_of_share(share)
    return taken_apart(height, slant)[1]


def tones_below(string, mark):
    need_string(string)
    need_fraction(mark)
    return fraction_changes([ONE] + [slant for height, slant in shape_by(string, mark)])
