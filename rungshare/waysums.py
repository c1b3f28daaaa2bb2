"""Sums of the worths of ways, and ladders told back by them."""

from rungshare.bare import NOUGHT, ONE, divided, lessened, timed
from rungshare.errors import Missing
from rungshare.ladders import has_end, need_ladder, need_top, row_to, stepped
from rungshare.ratios import need_between
from rungshare.rows import need_row
from rungshare.rowshares import shared_ladder
from rungshare.ways import HIGHEST, MOST_STEPS, need_height


def is_let(start, stop, many, here, there):
    """Whether a way of so many steps leads from start to here, by one step to there, and to stop."""
    # Steps that are left over go level.
    return abs(start - here) + 1 + abs(there - stop) <= many


def does_lack(ladder, start, stop, many):
    """Whether one of the ways goes level or down where the ladder, which is open, lacks this."""
    total, levels, steps = ladder
    beyond = HIGHEST + MOST_STEPS + 1
    if any([is_let(start, stop, many, height, height) for height in range(len(levels), beyond)]):
        return True
    return any([is_let(start, stop, many, height, height - 1) for height in range(len(steps) + 1, beyond)])


def sum_of_ways(ladder, start, stop, many):
    """The way sum, None where there is none."""
    total, levels, steps = ladder
    if has_end(ladder):
        if max(start, stop) >= len(levels):
            return NOUGHT
    elif does_lack(ladder, start, stop, many):
        return None
    sums = [NOUGHT] * start + [ONE]
    for _ in range(many):
        sums = stepped(sums, levels, steps)
    return sums[stop] if stop < len(sums) else NOUGHT


def way_sum(ladder, start, stop, many):
    need_ladder(ladder)
    need_height(start)
    need_height(stop)
    told = sum_of_ways(ladder, start, stop, need_between(many, 0, MOST_STEPS))
    if told is None:
        raise Missing(many)
    return told


def row_by_ways(ladder, top):
    need_top(need_ladder(ladder), top)
    return tuple([timed(ladder[0], sum_of_ways(ladder, 0, 0, many)) for many in range(top + 1)])


def ladder_by_ways(row):
    shared_ladder(need_row(row))
    levels = []
    steps = []
    climb = ONE
    for many in range(1, len(row)):
        # The level or step that is looked for is left out of these; just one way takes it.
        known = row_to((ONE, levels, steps), many)[-1]
        part = divided(lessened(divided(row[many], row[0]), known), climb)
        if many & 1:
            levels.append(part)
        else:
            steps.append(part)
            climb = timed(climb, part)
        if climb == NOUGHT:
            break
    return (row[0], tuple(levels), tuple(steps))
