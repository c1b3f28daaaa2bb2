"""Near fractions of a ladder, and the series of a pair of polynomials."""

from rungshare.bare import NOUGHT, at_power, divided, lessened, paired_sum
from rungshare.divide import need_divisor
from rungshare.errors import BadPoly
from rungshare.ladders import LAST_MOMENT, climbed, need_ladder, rungs_of
from rungshare.polys import need_poly
from rungshare.ratios import need_between


def near_fractions_of(ladder):
    """The near fractions of a ladder that is known to be one."""
    total, levels, steps = ladder
    bottoms = rungs_of(ladder)
    tops = ((),) + climbed((), (total,), levels[1:], steps)
    return tuple(zip(tops, bottoms))


def near_fractions(ladder):
    return near_fractions_of(need_ladder(ladder))


def series_of(top, bottom, last):
    """The first ones of the series, to the number last, of a pair that is known to be as wanted."""
    degree = len(bottom) - 1
    # The highest powers ahead, so that each meets the one of the series that it is multiplied by.
    behind = bottom[:-1][::-1]
    found = []
    for number in range(last + 1):
        known = paired_sum(behind, found[::-1])
        wanted = at_power(top, degree - 1 - number) if number < degree else NOUGHT
        found.append(divided(lessened(wanted, known), bottom[-1]))
    return tuple(found)


def series(top, bottom, last):
    need_poly(top)
    need_divisor(bottom)
    if len(top) >= len(bottom):
        raise BadPoly(top)
    need_between(last, 0, LAST_MOMENT)
    return series_of(top, bottom, last)
