"""Rows and shares added: cumulants together, or all sums of numbers."""

from rungshare.bare import added, timed
from rungshare.cumulants import cumulants_by, row_by_cumulants
from rungshare.errors import BadRow, TooMany
from rungshare.gather import all_sums, gathered
from rungshare.partings import need_kind
from rungshare.rows import MOST_PAIRS, is_row, need_row, need_share


def kind_sum(row, other, kind):
    need_row(row)
    if not is_row(other) or len(other) != len(row):
        raise BadRow(other)
    need_kind(kind)
    both = [added(one, two) for one, two in zip(cumulants_by(row, kind), cumulants_by(other, kind))]
    return row_by_cumulants(timed(row[0], other[0]), both, kind)


def share_sum(share, second):
    need_share(share)
    whole = gathered(all_sums(share, need_share(second)))
    if len(whole) > MOST_PAIRS:
        raise TooMany(MOST_PAIRS)
    return whole
