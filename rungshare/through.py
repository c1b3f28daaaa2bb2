"""The ladder of the share that has as much at a mark as can be."""

from rungshare.bare import NOUGHT, divided, lessened, poly_at, timed
from rungshare.ladders import rungs_of
from rungshare.marks import balanced_ladder
from rungshare.ratios import need_fraction
from rungshare.rows import need_row


def ladder_through(row, mark):
    need_row(row)
    need_fraction(mark)
    ladder = balanced_ladder(row)
    total, levels, steps = ladder
    worths = [poly_at(poly, mark) for poly in rungs_of(ladder)]
    if worths[-1] == NOUGHT:
        return None
    level = mark
    if steps:
        level = lessened(mark, divided(timed(steps[-1], worths[-2]), worths[-1]))
    return (total, levels + (level,), steps + (NOUGHT,))
