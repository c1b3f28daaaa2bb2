"""Cumulants of three kinds, to rows and back."""

from math import comb

from rungshare.bare import NOUGHT, ONE, added, at_power, divided, lessened, poly_timed, timed
from rungshare.errors import BadCumulants
from rungshare.partings import MOST_NUMBERS, need_kind, partings_of, sign_by
from rungshare.ratios import are_fractions, need_between, need_positive
from rungshare.rows import need_row

MOST = 8


def need_cumulants(thing):
    if not are_fractions(thing, MOST):
        raise BadCumulants(thing)


def power_part(moments, number, place):
    """What the power of that number of the polynomial of all moments has at a place."""
    moments = moments[:place + 1]
    whole = (ONE,)
    for _ in range(number):
        whole = poly_timed(whole, moments)[:place + 1]
    return at_power(whole, place)


def beside(kind, moments, number, size):
    """How many times the cumulant of that size is in the moment of that number, by the moments ahead of it."""
    left = number - size
    if kind == "free":
        return power_part(moments, size, left)
    if kind == "all":
        return timed((comb(number - 1, size - 1), 1), moments[left])
    return moments[left]


def moment_from(kind, moments, cumulants, number):
    """The moment of that number, by those ahead of it and by cumulants; those that are lacking count as nought."""
    whole = NOUGHT
    for k, cumulant in enumerate(cumulants[:number]):
        whole = added(whole, timed(cumulant, beside(kind, moments, number, k + 1)))
    return whole


def unit_moments(row):
    """The moments divided by the first one."""
    return [divided(moment, row[0]) for moment in row]


def cumulants_by(row, kind):
    """The cumulants of a row that is known to be one."""
    moments = unit_moments(row)
    cumulants = []
    for number in range(1, len(row)):
        cumulants.append(lessened(moments[number], moment_from(kind, moments, cumulants, number)))
    return tuple(cumulants)


def cumulants_of(row, kind):
    need_row(row)
    return cumulants_by(row, need_kind(kind))


def row_by_cumulants(total, cumulants, kind):
    """The row of cumulants that are known to be such."""
    moments = [ONE]
    for number in range(1, len(cumulants) + 1):
        moments.append(moment_from(kind, moments, cumulants, number))
    return tuple([timed(total, moment) for moment in moments])


def row_of_cumulants(total, cumulants, kind):
    need_positive(total)
    need_cumulants(cumulants)
    return row_by_cumulants(total, cumulants, need_kind(kind))


def block_product(parting, some):
    """The product of those of some fractions whose numbers are the sizes of the blocks."""
    whole = ONE
    for block in parting:
        whole = timed(whole, some[len(block)])
    return whole


def moment_by(kind, cumulants, many):
    need_kind(kind)
    need_cumulants(cumulants)
    need_between(many, 0, min(MOST_NUMBERS, len(cumulants)))
    some = (ONE,) + cumulants
    whole = NOUGHT
    for parting in partings_of(kind, many):
        whole = added(whole, block_product(parting, some))
    return whole


def cumulant_by(row, kind, many):
    need_row(row)
    need_kind(kind)
    need_between(many, 1, min(MOST_NUMBERS, len(row) - 1))
    moments = unit_moments(row)
    whole = NOUGHT
    for parting in partings_of(kind, many):
        whole = added(whole, timed((sign_by(kind, parting), 1), block_product(parting, moments)))
    return whole
