"""How much of a share with three given moments lies at or below a mark."""

from rungshare.bare import added, divided, is_below, lessened, timed
from rungshare.errors import BadFraction, BadOpen
from rungshare.marks import balanced_ladder
from rungshare.ratios import need_fraction
from rungshare.rows import need_row

MANY = 3


def middle_and_spread(row, mark):
    """U and V of the row, behind the errors of both."""
    need_row(row)
    need_fraction(mark)
    total, levels, steps = balanced_ladder(row)
    if len(row) != MANY:
        raise BadOpen(row)
    # The first level is the mean, the first step what the mean square is more than its square.
    return (levels[0], steps[0])


def part_bound(row, mark):
    middle, spread = middle_and_spread(row, mark)
    away = lessened(mark, middle)
    square = timed(away, away)
    whole = added(spread, square)
    if is_below(mark, middle):
        return ("most", divided(spread, whole))
    return ("least", divided(square, whole))


def two_numbers(row, mark):
    middle, spread = middle_and_spread(row, mark)
    if mark == middle:
        raise BadFraction(mark)
    away = lessened(mark, middle)
    other = lessened(middle, divided(spread, away))
    weight = timed(row[0], divided(spread, added(spread, timed(away, away))))
    here = (mark, weight)
    there = (other, lessened(row[0], weight))
    return (here, there) if is_below(mark, middle) else (there, here)
