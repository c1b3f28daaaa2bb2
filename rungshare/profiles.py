"""Profiles of ways from 0 to 0: how many level and down steps they have at each height."""

from math import comb

from rungshare.errors import BadProfile, BadWay
from rungshare.ratios import is_between, need_between
from rungshare.ways import MOST_STEPS, heights_by, is_way, ways_between

MOST_HEIGHTS = 5


def counted(heights):
    """How many there are of each height, the lowest one first, to the greatest one that is there."""
    return tuple([heights.count(height) for height in range(max(heights, default=-1) + 1)])


def profile_by(way):
    """The profile of a way that is known to be one from 0 to 0."""
    pairs = list(zip(heights_by(0, way), way))
    levels = [height for height, step in pairs if step == 0]
    downs = [height - 1 for height, step in pairs if step == -1]
    return (counted(levels), counted(downs))


def profile_of(way):
    if not is_way(0, way) or sum(way) != 0:
        raise BadWay(way)
    return profile_by(way)


def are_counts(thing):
    """Whether it is a tuple of small integers, the last one not 0."""
    if not isinstance(thing, tuple) or len(thing) > MOST_HEIGHTS:
        return False
    return all([is_between(many, 0, MOST_STEPS) for many in thing]) and (len(thing) == 0 or thing[-1] != 0)


def is_profile(thing):
    return isinstance(thing, tuple) and len(thing) == 2 and are_counts(thing[0]) and are_counts(thing[1])


def choices(many, out_of):
    """How many choices there are of so many things; out_of may be -1."""
    if many == 0:
        return 1
    return comb(out_of, many) if out_of >= many else 0


def profile_count(profile):
    if not is_profile(profile):
        raise BadProfile(profile)
    levels, downs = profile
    if sum(levels) + 2 * sum(downs) > MOST_STEPS:
        return 0
    levels = levels + (0,) * (MOST_HEIGHTS - len(levels))
    downs = (1,) + downs + (0,) * (MOST_HEIGHTS - len(downs))
    many = 1
    for level, here, above in zip(levels, downs, downs[1:]):
        many *= choices(above, here + above - 1) * choices(level, here + above + level - 1)
    return many


def all_profiles(many):
    need_between(many, 0, MOST_STEPS)
    found = {}
    for way in ways_between(0, 0, many):
        profile = profile_by(way)
        found[profile] = found.get(profile, 0) + 1
    return tuple(sorted(found.items()))
