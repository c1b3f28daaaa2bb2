"""Rows weighed by x, folded and unfolded."""

from rungshare.bare import NOUGHT
from rungshare.errors import BadRow
from rungshare.rows import MOST_MOMENTS, need_row


def weighed_by_x(row):
    if len(need_row(row)) < 2 or row[1][0] <= 0:
        raise BadRow(row)
    return row[1:]


def folded(row):
    filled = []
    for moment in need_row(row):
        filled.extend([moment, NOUGHT])
    return tuple(filled[:-1][:MOST_MOMENTS])


def unfolded(row):
    need_row(row)
    if len(row) & 1 == 0 or any([moment != NOUGHT for moment in row[1::2]]):
        raise BadRow(row)
    return row[::2]
