"""Ladders: a total, levels and steps, with their rung polynomials, norms and rows."""

from rungshare.bare import NOUGHT, ONE, added, next_rung, timed
from rungshare.errors import BadLadder
from rungshare.ratios import are_fractions, is_positive, need_between

MOST_OPEN = 4
MOST_ENDED = 5
LAST_MOMENT = 8


def is_ladder(thing):
    if not isinstance(thing, tuple) or len(thing) != 3 or not is_positive(thing[0]):
        return False
    if not are_fractions(thing[1], MOST_ENDED) or not are_fractions(thing[2], MOST_ENDED):
        return False
    levels, steps = thing[1:]
    if steps and steps[-1] == NOUGHT:
        return len(levels) == len(steps) and are_above(steps[:-1])
    return len(levels) <= MOST_OPEN and len(levels) - len(steps) in (0, 1) and are_above(steps)


def are_above(some):
    """Whether all fractions of a tuple are above nought."""
    return all([part[0] > 0 for part in some])


def need_ladder(thing):
    if not is_ladder(thing):
        raise BadLadder(thing)
    return thing


def has_end(ladder):
    steps = ladder[2]
    return len(steps) > 0 and steps[-1] == NOUGHT


def is_ended(ladder):
    return has_end(need_ladder(ladder))


def climbed(before, here, levels, steps):
    """The polynomials from here on, by the rule of three terms: a level and a step for each next one."""
    polys = [here]
    for level, step in zip(levels, steps):
        before, here = here, next_rung(before, here, level, step)
        polys.append(here)
    return tuple(polys)


def rungs_of(ladder):
    """The rung polynomials of a ladder that is known to be one."""
    total, levels, steps = ladder
    return climbed((), (ONE,), levels, (NOUGHT,) + steps)


def in_turn(ladder):
    """The levels and steps of a ladder in turn: A0, B1, A1, B2, and so on."""
    total, levels, steps = ladder
    some = []
    for k, level in enumerate(levels):
        some.append(level)
        some.extend(steps[k:k + 1])
    return some


def rung_polys(ladder):
    return rungs_of(need_ladder(ladder))


def norms(ladder):
    total, levels, steps = need_ladder(ladder)
    found = [total]
    for step in steps:
        found.append(timed(found[-1], step))
    return tuple(found)


def stepped(sums, levels, steps):
    """The sums of the worths of all ways that are one step longer, by the heights where they end."""
    longer = []
    for height in range(len(sums) + 1):
        whole = sums[height - 1] if height > 0 else NOUGHT
        if height < len(sums) and height < len(levels):
            whole = added(whole, timed(levels[height], sums[height]))
        if height + 1 < len(sums) and height < len(steps):
            whole = added(whole, timed(steps[height], sums[height + 1]))
        longer.append(whole)
    return longer


def row_to(ladder, top):
    """The moments 0 to top of a ladder that is known to have them."""
    total, levels, steps = ladder
    # A level or step that an open ladder lacks is left out: no way that is back at 0 by then takes it.
    sums = [ONE]
    row = [total]
    for _ in range(top):
        sums = stepped(sums, levels, steps)
        row.append(timed(total, sums[0]))
    return tuple(row)


def need_top(ladder, top):
    """The number of a moment that a ladder, known to be one, has."""
    total, levels, steps = ladder
    most = LAST_MOMENT if has_end(ladder) else min(LAST_MOMENT, len(levels) + len(steps))
    return need_between(top, 0, most)


def row_of(ladder, top):
    need_top(need_ladder(ladder), top)
    return row_to(ladder, top)
