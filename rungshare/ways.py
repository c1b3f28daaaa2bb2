"""Ways up, level and down, and their worths by a ladder."""

from rungshare.bare import NOUGHT, ONE, timed
from rungshare.errors import BadWay, Missing
from rungshare.ladders import has_end, need_ladder
from rungshare.ratios import is_between, need_between

MOST_STEPS = 8
HIGHEST = 4


def heights_by(start, way):
    heights = [start]
    for step in way:
        heights.append(heights[-1] + step)
    return tuple(heights)


def is_way(start, thing):
    """Whether it is a way from this height."""
    if not isinstance(thing, tuple) or len(thing) > MOST_STEPS:
        return False
    return all([is_between(step, -1, 1) for step in thing]) and min(heights_by(start, thing)) >= 0


def need_way(start, way):
    """A way from this height, which is refused ahead of it."""
    need_height(start)
    if not is_way(start, way):
        raise BadWay(way)
    return way


def need_height(thing):
    """A height where a way begins, or is asked to end."""
    return need_between(thing, 0, HIGHEST)


def ways_between(start, stop, many):
    """All ways of so many steps from one height to another one, ascending."""
    begun = [((), start)]
    for left in reversed(range(many)):
        longer = []
        for way, height in begun:
            for step in (-1, 0, 1):
                if height + step >= 0 and abs(height + step - stop) <= left:
                    longer.append((way + (step,), height + step))
        begun = longer
    return tuple([way for way, height in begun if height == stop])


def all_ways(start, stop, many):
    need_height(start)
    need_height(stop)
    return ways_between(start, stop, need_between(many, 0, MOST_STEPS))


def heights_of(start, way):
    return heights_by(start, need_way(start, way))


def worth_by(ladder, start, way):
    """The worth of a way, None if it has none."""
    total, levels, steps = ladder
    heights = heights_by(start, way)
    if has_end(ladder) and max(heights) >= len(levels):
        return NOUGHT
    worth = ONE
    for height, step in zip(heights, way):
        if step == 0:
            if height >= len(levels):
                return None
            worth = timed(worth, levels[height])
        elif step == -1:
            if height > len(steps):
                return None
            worth = timed(worth, steps[height - 1])
    return worth


def way_worth(ladder, start, way):
    need_ladder(ladder)
    need_way(start, way)
    worth = worth_by(ladder, start, way)
    if worth is None:
        raise Missing(way)
    return worth
