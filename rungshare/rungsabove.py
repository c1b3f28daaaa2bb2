"""The ladder above another one, and open ladders cut at a height."""

from rungshare.bare import NOUGHT, ONE
from rungshare.errors import BadLadder, Missing
from rungshare.ladders import has_end, need_ladder
from rungshare.ratios import need_between


def ladder_above(ladder):
    total, levels, steps = need_ladder(ladder)
    if len(levels) < 2:
        raise Missing(1)
    return (ONE, levels[1:], steps[1:])


def cut_at(ladder, height):
    total, levels, steps = need_ladder(ladder)
    if has_end(ladder):
        raise BadLadder(ladder)
    need_between(height, 0, len(levels) - 1)
    return (total, levels[:height + 1], steps[:height] + (NOUGHT,))
