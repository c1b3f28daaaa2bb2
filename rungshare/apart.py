"""Bundles of ways that stand apart, and the determinants that sum them."""

from rungshare.bare import NOUGHT, ONE, determinant, opposite, timed
from rungshare.errors import BadBundle, BadOrder, BadPlaces, BadTable, Missing, TooMany
from rungshare.ladders import need_ladder
from rungshare.ratios import are_fractions, is_between
from rungshare.ways import HIGHEST, heights_by, is_way, ways_between, worth_by
from rungshare.waysums import sum_of_ways

MOST_PLACES = 3
FARTHEST = 2
MOST_BUNDLES = 2000
MOST_ROWS = 4


def is_place(thing):
    if not isinstance(thing, tuple) or len(thing) != 2:
        return False
    return is_between(thing[0], -FARTHEST, FARTHEST) and is_between(thing[1], 0, HIGHEST)


def need_places(thing):
    if not isinstance(thing, tuple) or len(thing) < 1 or len(thing) > MOST_PLACES:
        raise BadPlaces(thing)
    if not all([is_place(place) for place in thing]) or len(set(thing)) < len(thing):
        raise BadPlaces(thing)
    return thing


def need_both(starts, ends):
    need_places(starts)
    if len(need_places(ends)) != len(starts):
        raise BadPlaces(ends)


def pairs_from(start, ends):
    """All pairs of the number of an end and a way to it, ascending."""
    found = []
    for number, end in enumerate(ends):
        if end[0] >= start[0]:
            found.extend([(number, way) for way in ways_between(start[1], end[1], end[0] - start[0])])
    return found


def places_of(start, way):
    """Where a way from a place stands."""
    return tuple([(start[0] + k, height) for k, height in enumerate(heights_by(start[1], way))])


def is_apart(taken, places):
    return not any([place in taken for place in places])


def bundles(starts, ends):
    need_both(starts, ends)
    begun = [((), ())]
    for start in starts:
        pairs = [(pair, places_of(start, pair[1])) for pair in pairs_from(start, ends)]
        # Two ways to one end share its place, so the ends are unlike without asking.
        begun = [(bundle + (pair,), taken + places)
                 for bundle, taken in begun
                 for pair, places in pairs
                 if is_apart(taken, places)]
    if len(begun) > MOST_BUNDLES:
        raise TooMany(MOST_BUNDLES)
    return tuple([bundle for bundle, taken in begun])


def is_order(thing):
    if not isinstance(thing, tuple) or len(thing) < 1 or len(thing) > MOST_PLACES:
        return False
    return all([is_between(number, 0, len(thing) - 1) for number in thing]) and len(set(thing)) == len(thing)


def sign_of(order):
    """The sign of an order that is known to be one."""
    turned = sum([1 for k, later in enumerate(order) for ahead in order[:k] if ahead > later])
    return -1 if turned & 1 else 1


def order_sign(bundle_order):
    if not is_order(bundle_order):
        raise BadOrder(bundle_order)
    return sign_of(bundle_order)


def is_numbered_way(start, thing):
    """Whether it is a pair of something, the order's to judge, and a way from the start."""
    return isinstance(thing, tuple) and len(thing) == 2 and is_way(start[1], thing[1])


def is_bundle(starts, thing):
    """Whether it is a tuple of a numbered way for each start, the numbers being an order."""
    if not isinstance(thing, tuple) or len(thing) != len(starts):
        return False
    if not all([is_numbered_way(start, pair) for start, pair in zip(starts, thing)]):
        return False
    return is_order(tuple([number for number, way in thing]))


def bundle_worth(ladder, starts, bundle):
    need_ladder(ladder)
    if not is_bundle(need_places(starts), bundle):
        raise BadBundle(bundle)
    whole = ONE
    for start, pair in zip(starts, bundle):
        worth = worth_by(ladder, start[1], pair[1])
        if worth is None:
            raise Missing(bundle)
        whole = timed(whole, worth)
    return whole if sign_of([number for number, way in bundle]) == 1 else opposite(whole)


def need_sum(ladder, start, end):
    """The way sum from a place to another one."""
    many = end[0] - start[0]
    if many < 0:
        return NOUGHT
    told = sum_of_ways(ladder, start[1], end[1], many)
    if told is None:
        raise Missing(many)
    return told


def way_table(ladder, starts, ends):
    need_ladder(ladder)
    need_both(starts, ends)
    return tuple([tuple([need_sum(ladder, start, end) for end in ends]) for start in starts])


def table_determinant(table):
    if not isinstance(table, tuple) or len(table) < 1 or len(table) > MOST_ROWS:
        raise BadTable(table)
    if not all([are_fractions(row, MOST_ROWS) and len(row) == len(table) for row in table]):
        raise BadTable(table)
    return determinant(table)
