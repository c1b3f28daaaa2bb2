"""Determinants of squares of moments."""

from rungshare.bare import determinant
from rungshare.ratios import need_between
from rungshare.rows import need_row


def square_from(row, number, shift):
    """The determinant of the moments I + J + shift, for I and J from 0 to number."""
    return determinant([row[k + shift:k + shift + number + 1] for k in range(number + 1)])


def square_of(row, number):
    need_row(row)
    need_between(number, 0, (len(row) - 1) // 2)
    return square_from(row, number, 0)


def shifted_of(row, number):
    need_row(row)
    need_between(number, 0, (len(row) - 2) // 2)
    return square_from(row, number, 1)
