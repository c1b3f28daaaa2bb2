"""Rows and ladders of shares that are moved, scaled, taken many times, or have an atom more."""

from math import comb

from rungshare.bare import NOUGHT, added, raised, timed
from rungshare.errors import BadFraction
from rungshare.ladders import need_ladder
from rungshare.ratios import need_fraction, need_positive
from rungshare.rows import need_row


def need_factor(factor):
    """A fraction that is not nought."""
    if need_fraction(factor) == NOUGHT:
        raise BadFraction(factor)
    return factor


def moved_moment(row, step, number):
    whole = NOUGHT
    for k, moment in enumerate(row[:number + 1]):
        part = timed((comb(number, k), 1), raised(step, number - k))
        whole = added(whole, timed(part, moment))
    return whole


def moved_row(row, step):
    need_row(row)
    need_fraction(step)
    return tuple([moved_moment(row, step, number) for number in range(len(row))])


def scaled_row(row, factor):
    need_row(row)
    need_factor(factor)
    return tuple([timed(raised(factor, number), moment) for number, moment in enumerate(row)])


def times_row(row, many):
    need_row(row)
    need_positive(many)
    return tuple([timed(many, moment) for moment in row])


def moved_ladder(ladder, step):
    total, levels, steps = need_ladder(ladder)
    need_fraction(step)
    return (total, tuple([added(level, step) for level in levels]), steps)


def scaled_ladder(ladder, factor):
    total, levels, steps = need_ladder(ladder)
    square = raised(need_factor(factor), 2)
    return (total, tuple([timed(factor, level) for level in levels]), tuple([timed(square, step) for step in steps]))


def with_atom(row, place, weight):
    need_row(row)
    need_fraction(place)
    need_positive(weight)
    return tuple([added(moment, timed(weight, raised(place, number))) for number, moment in enumerate(row)])
