"""Tables with three diagonals: lower, middle and upper."""

from rungshare.bare import NOUGHT, ONE, added, timed
from rungshare.errors import BadLadder, BadTable
from rungshare.ladders import are_above, need_ladder
from rungshare.ratios import are_fractions, need_between, need_positive

MOST_ROWS = 5
LAST_POWER = 12


def crossed(lower, upper):
    """The product of each of lower with that of upper: two such stand across the diagonal."""
    return tuple([timed(low, high) for low, high in zip(lower, upper)])


def is_table(thing):
    if not isinstance(thing, tuple) or len(thing) != 3:
        return False
    if not all([are_fractions(diagonal, MOST_ROWS) for diagonal in thing]):
        return False
    lower, middle, upper = thing
    return len(lower) == len(middle) - 1 and len(upper) == len(lower) and are_above(crossed(lower, upper))


def need_table(thing):
    if not is_table(thing):
        raise BadTable(thing)
    return thing


def table_of(ladder):
    total, levels, steps = need_ladder(ladder)
    if len(levels) == 0:
        raise BadLadder(ladder)
    room = len(levels) - 1
    return (steps[:room], levels, (ONE,) * room)


def unit_row(many, number):
    """A row of so many, 1 at this number, else nought."""
    return [ONE if k == number else NOUGHT for k in range(many)]


def row_timed(row, table):
    """A row of fractions, as many as the table has columns, times the table."""
    lower, middle, upper = table
    longer = []
    for k, part in enumerate(middle):
        whole = timed(row[k], part)
        if k > 0:
            whole = added(whole, timed(row[k - 1], upper[k - 1]))
        if k < len(lower):
            whole = added(whole, timed(row[k + 1], lower[k]))
        longer.append(whole)
    return longer


def row_powered(row, table, number):
    """A row times that power of the table."""
    for _ in range(number):
        row = row_timed(row, table)
    return tuple(row)


def power_of(table, number):
    need_table(table)
    need_between(number, 0, LAST_POWER)
    many = len(table[1])
    return tuple([row_powered(unit_row(many, k), table, number) for k in range(many)])


def corners(table, top):
    """The corners 0 to top of a table that is known to be one."""
    row = unit_row(len(table[1]), 0)
    found = [row[0]]
    for _ in range(top):
        row = row_timed(row, table)
        found.append(row[0])
    return tuple(found)


def corner(table, number):
    need_table(table)
    return corners(table, need_between(number, 0, LAST_POWER))[-1]


def led_by_table(total, table):
    """The ladder of a table that is known to be one."""
    lower, middle, upper = table
    return (total, middle, crossed(lower, upper) + (NOUGHT,))


def table_ladder(total, table):
    need_positive(total)
    return led_by_table(total, need_table(table))


def are_alike(table, other):
    need_table(table)
    need_table(other)
    return led_by_table(ONE, table) == led_by_table(ONE, other)
