"""Tables cut, bordered and turned about, and their polynomials."""

from rungshare.bare import ONE, timed
from rungshare.errors import BadFraction, BadTable, TooMany
from rungshare.ladders import rungs_of
from rungshare.ratios import need_fraction
from rungshare.tables import MOST_ROWS, led_by_table, need_table


def table_poly(table):
    return rungs_of(led_by_table(ONE, need_table(table)))[-1]


def cut_off(table):
    """A table of at least two rows, cut."""
    lower, middle, upper = table
    return (lower[1:], middle[1:], upper[1:])


def cut_table(table):
    if len(need_table(table)[1]) < 2:
        raise BadTable(table)
    return cut_off(table)


def bordered(table, low, first, high):
    lower, middle, upper = need_table(table)
    need_fraction(low)
    need_fraction(first)
    need_fraction(high)
    if timed(low, high)[0] <= 0:
        raise BadFraction(high)
    if len(middle) >= MOST_ROWS:
        raise TooMany(MOST_ROWS)
    return ((low,) + lower, (first,) + middle, (high,) + upper)


def turned_table(table):
    lower, middle, upper = need_table(table)
    return (upper[::-1], middle[::-1], lower[::-1])
