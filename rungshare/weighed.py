"""Rows weighed by lines and squares, and the ladders of those weighed by lines."""

from rungshare.bare import NOUGHT, ONE, divided, opposite, poly_at, poly_timed, row_sum
from rungshare.errors import BadLadder, BadRow, Missing
from rungshare.ladders import has_end, need_ladder, rungs_of
from rungshare.ratios import need_fraction
from rungshare.rows import need_row


def weighed_by(row, poly):
    """The sums of a polynomial times the powers of x, as far as the row goes; None, if they begin no row."""
    sums = tuple([row_sum(row, poly, number) for number in range(len(row) - len(poly) + 1)])
    return sums if sums[0][0] > 0 else None


def need_longer(row, many):
    """A row of so many fractions at least."""
    if len(need_row(row)) < many:
        raise BadRow(row)


def by_line(row, place):
    need_longer(row, 2)
    return weighed_by(row, (opposite(need_fraction(place)), ONE))


def by_square(row, place):
    need_longer(row, 3)
    line = (opposite(need_fraction(place)), ONE)
    return weighed_by(row, poly_timed(line, line))


def line_steps(ladder, place):
    total, levels, steps = need_ladder(ladder)
    if has_end(ladder):
        raise BadLadder(ladder)
    need_fraction(place)
    worths = [poly_at(poly, place) for poly in rungs_of(ladder)]
    if NOUGHT in worths:
        raise Missing(worths.index(NOUGHT))
    ups = tuple([opposite(divided(after, worth)) for worth, after in zip(worths, worths[1:])])
    return (ups, tuple([divided(step, up) for step, up in zip(steps, ups)]))
