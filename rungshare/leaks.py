"""Leaks of strings, and strings with a gap or a bead that has grown."""

from rungshare.bare import NOUGHT, ONE, added, divided, timed
from rungshare.errors import BadPart
from rungshare.ratios import need_between, need_positive
from rungshare.strings import need_string

PARTS = ("gap", "bead")


def leak_at(string, mark):
    gaps, beads = need_string(string)
    need_positive(mark)
    leak = NOUGHT
    for gap, bead in zip(gaps, beads):
        leak = added(leak, gap)
        leak = divided(ONE, added(divided(ONE, leak), timed(mark, bead)))
    return leak


def grown_at(some, number, mark):
    """The tuple of fractions with that of this number greater by mark."""
    return some[:number] + (added(some[number], mark),) + some[number + 1:]


def grown_string(string, part, number, mark):
    gaps, beads = need_string(string)
    if not isinstance(part, str) or part not in PARTS:
        raise BadPart(part)
    need_between(number, 0, len(gaps) - 1)
    need_positive(mark)
    if part == "gap":
        return (grown_at(gaps, number, mark), beads)
    return (gaps, grown_at(beads, number, mark))
