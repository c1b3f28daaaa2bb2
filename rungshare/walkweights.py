"""Weights of rungs, and how a walk comes back to the first one."""

from rungshare.bare import NOUGHT, ONE, added, divided, timed
from rungshare.cuts import cut_off
from rungshare.ladders import LAST_MOMENT
from rungshare.rates import has_lid, need_rates, rates_table
from rungshare.ratios import need_between
from rungshare.tables import corners


def weights_by(rates):
    """The weights of rates that are known to be such."""
    weights = [ONE]
    for here, after in zip(rates, rates[1:]):
        weights.append(divided(timed(weights[-1], here[0]), after[2]))
    return tuple(weights)


def rung_weights(rates):
    return weights_by(need_rates(rates))


def first_backs(rates, top):
    need_rates(rates)
    need_between(top, 0, LAST_MOMENT)
    later = [NOUGHT] * top
    if len(rates) > 1 and top > 1:
        there = timed(rates[0][0], rates[1][2])
        later = [timed(there, back) for back in corners(cut_off(rates_table(rates)), top - 2)]
    return ((rates[0][1],) + tuple(later))[:top]


def mean_back(rates):
    if not has_lid(need_rates(rates)):
        return None
    whole = NOUGHT
    for weight in weights_by(rates):
        whole = added(whole, weight)
    return whole
