"""Chains: shares as a polynomial divided by another one."""

from rungshare.bare import ONE, opposite, poly_added, poly_scaled, poly_timed
from rungshare.errors import BadChain, TooMany
from rungshare.ladders import has_end
from rungshare.nears import series_of
from rungshare.polys import is_poly
from rungshare.rows import need_share
from rungshare.rowshares import ladder_or_none

HIGHEST = 4


def is_chain(top, bottom):
    """Whether they are polynomials, the top not () and of a lesser degree, the bottom not of too great a one."""
    if not is_poly(top) or not is_poly(bottom):
        return False
    return 0 < len(top) and len(top) < len(bottom) and len(bottom) <= HIGHEST + 1


def begun_series(top, bottom):
    """As much of the series as a row to twice the degree, perhaps no row, of what has to be a chain."""
    if not is_chain(top, bottom):
        raise BadChain((top, bottom))
    return series_of(top, bottom, 2 * len(bottom) - 2)


def chain_row(top, bottom):
    row = begun_series(top, bottom)
    if row[0][0] <= 0:
        raise BadChain((top, bottom))
    return row


def chain_ladder(top, bottom):
    row = begun_series(top, bottom)
    if row[0][0] <= 0:
        return None
    ladder = ladder_or_none(row)
    return ladder if ladder is not None and has_end(ladder) else None


def chain_of(share):
    if len(need_share(share)) > HIGHEST:
        raise TooMany(HIGHEST)
    top = ()
    bottom = (ONE,)
    for number, weight in share:
        factor = (opposite(number), ONE)
        top = poly_added(poly_timed(top, factor), poly_scaled(bottom, weight))
        bottom = poly_timed(bottom, factor)
    return (top, bottom)
