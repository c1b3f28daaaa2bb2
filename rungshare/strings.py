"""Strings with beads: their shapes, polynomials and answers."""

from rungshare.bare import NOUGHT, ONE, added, divided, lessened, poly_added, poly_lessened, poly_scaled
from rungshare.bare import poly_shifted, timed
from rungshare.errors import BadString, TooMany
from rungshare.ladders import are_above
from rungshare.ratios import are_fractions, need_fraction

MOST_BEADS = 5


def is_string(thing):
    if not isinstance(thing, tuple) or len(thing) != 2:
        return False
    if not all([are_fractions(some, MOST_BEADS) and are_above(some) for some in thing]):
        return False
    return len(thing[0]) > 0 and len(thing[0]) == len(thing[1])


def need_string(thing):
    if not is_string(thing):
        raise BadString(thing)
    return thing


def shape_by(string, mark):
    """The shape of a string that is known to be one."""
    gaps, beads = string
    height = NOUGHT
    slant = ONE
    shape = []
    for gap, bead in zip(gaps, beads):
        height = added(height, timed(gap, slant))
        slant = lessened(slant, timed(timed(mark, bead), height))
        shape.append((height, slant))
    return tuple(shape)


def shape_at(string, mark):
    need_string(string)
    return shape_by(string, need_fraction(mark))


def polys_by(string):
    """The pair of polynomials of a string that is known to be one."""
    gaps, beads = string
    height = ()
    slant = (ONE,)
    for gap, bead in zip(gaps, beads):
        height = poly_added(height, poly_scaled(slant, gap))
        slant = poly_lessened(slant, poly_scaled(poly_shifted(height, 1), bead))
    return (height, slant)


def string_polys(string):
    return polys_by(need_string(string))


def answer_at(string, mark):
    height, slant = shape_at(string, mark)[-1]
    return None if slant == NOUGHT else divided(height, slant)


def joined_strings(string, other):
    need_string(string)
    need_string(other)
    if len(string[0]) + len(other[0]) > MOST_BEADS:
        raise TooMany(MOST_BEADS)
    return (string[0] + other[0], string[1] + other[1])
