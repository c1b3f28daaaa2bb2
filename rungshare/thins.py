"""Rows thinned and filled, and ladders of thinned ones."""

from rungshare.bare import NOUGHT
from rungshare.errors import BadLadder
from rungshare.folds import folded
from rungshare.ladders import has_end, need_ladder
from rungshare.rises import led_ladder
from rungshare.rows import need_row


def thinned_row(row):
    return need_row(row)[::2]


def filled_row(row):
    return folded(row)


def thinned_ladder(ladder):
    total, levels, steps = need_ladder(ladder)
    if has_end(ladder) or any([level != NOUGHT for level in levels]):
        raise BadLadder(ladder)
    # The squares of the numbers are a share from nought on: the steps are its rises.
    return led_ladder(total, steps)
