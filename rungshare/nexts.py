"""What fits behind a row that is of a share."""

from rungshare.bare import NOUGHT, is_below
from rungshare.errors import TooMany
from rungshare.ladders import has_end, row_to
from rungshare.ratios import need_fraction
from rungshare.rows import MOST_MOMENTS, need_row
from rungshare.rowshares import shared_ladder


def fits_behind(row):
    """What fits behind a row that is known to be one."""
    ladder = shared_ladder(row)
    if len(row) >= MOST_MOMENTS:
        raise TooMany(MOST_MOMENTS)
    if has_end(ladder):
        return ("only", row_to(ladder, len(row))[-1])
    total, levels, steps = ladder
    if len(levels) == len(steps):
        return ("any",)
    return ("from", row_to((total, levels, steps + (NOUGHT,)), len(row))[-1])


def next_fits(row):
    return fits_behind(need_row(row))


def does_fit(row, mark):
    need_row(row)
    need_fraction(mark)
    told = fits_behind(row)
    if told[0] == "any":
        return True
    if told[0] == "only":
        return mark == told[1]
    return not is_below(mark, told[1])
