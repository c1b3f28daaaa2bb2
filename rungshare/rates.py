"""Rates of a walk on rungs: up, stay and down on each one."""

from rungshare.bare import NOUGHT, ONE, added, timed
from rungshare.errors import BadRates, BadRung
from rungshare.ladders import LAST_MOMENT
from rungshare.ratios import are_fractions, is_between, need_between
from rungshare.tables import corners, row_timed, unit_row

MOST_RUNGS = 5
LAST_STEP = 12


def is_rung(thing):
    """Whether it is a triple of fractions from nought on, together 1."""
    if not are_fractions(thing, 3) or len(thing) != 3 or any([chance[0] < 0 for chance in thing]):
        return False
    up, stay, down = thing
    return added(added(up, stay), down) == ONE


def are_rates(thing):
    if not isinstance(thing, tuple) or len(thing) < 1 or len(thing) > MOST_RUNGS:
        return False
    if not all([is_rung(rung) for rung in thing]) or thing[0][2] != NOUGHT:
        return False
    return all([here[0] != NOUGHT and after[2] != NOUGHT for here, after in zip(thing, thing[1:])])


def need_rates(thing):
    if not are_rates(thing):
        raise BadRates(thing)
    return thing


def has_lid(rates):
    """Whether rates that are known to be such are closed."""
    return rates[-1][0] == NOUGHT


def is_closed(rates):
    return has_lid(need_rates(rates))


def rates_table(rates):
    """The table that has at (I, J) the chance to go from rung I to J in one step."""
    ups = tuple([up for up, stay, down in rates[:-1]])
    stays = tuple([stay for up, stay, down in rates])
    downs = tuple([down for up, stay, down in rates[1:]])
    return (downs, stays, ups)


def chances(rates, rung, steps):
    need_rates(rates)
    if not is_between(rung, 0, len(rates) - 1):
        raise BadRung(rung)
    need_between(steps, 0, LAST_STEP)
    table = rates_table(rates)
    here = unit_row(len(rates), rung)
    lost = NOUGHT
    for _ in range(steps):
        lost = added(lost, timed(here[-1], rates[-1][0]))
        here = row_timed(here, table)
    return tuple(here) + (lost,)


def back_row(rates, top):
    need_rates(rates)
    return corners(rates_table(rates), need_between(top, 0, LAST_MOMENT))
