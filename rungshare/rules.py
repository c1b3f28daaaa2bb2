"""Rules that sum by few points: how far they are exact for a row."""

from rungshare.bare import NOUGHT, ONE, divided, is_below, opposite, poly_at, poly_divided, poly_timed, row_sum
from rungshare.errors import BadPoints, BadRule
from rungshare.ratios import are_fractions, need_between
from rungshare.rows import moment_of, need_row

MOST_POINTS = 6


def do_ascend(points):
    """Whether each fraction is less than the next one."""
    return all([is_below(one, other) for one, other in zip(points, points[1:])])


def are_points(thing):
    return are_fractions(thing, MOST_POINTS) and len(thing) > 0 and do_ascend(thing)


def is_parted(thing):
    """Whether it is a pair of fractions, the second one not nought."""
    return are_fractions(thing, 2) and len(thing) == 2 and thing[1] != NOUGHT


def is_rule(thing):
    if not isinstance(thing, tuple) or not all([is_parted(pair) for pair in thing]):
        return False
    return are_points(tuple([pair[0] for pair in thing]))


def need_rule(thing):
    if not is_rule(thing):
        raise BadRule(thing)
    return thing


def node_by(points):
    """The node of points that are known to be such."""
    node = (ONE,)
    for point in points:
        node = poly_timed(node, (opposite(point), ONE))
    return node


def node_of(points):
    if not are_points(points):
        raise BadPoints(points)
    return node_by(points)


def parts_at(row, points):
    """The parts of points, known to be such and no more than the row has fractions."""
    node = node_by(points)
    parts = []
    for point in points:
        # It is nought at all points but this one.
        poly = poly_divided(node, (opposite(point), ONE))[0]
        parts.append(divided(row_sum(row, poly), poly_at(poly, point)))
    return tuple(parts)


def rule_at(row, points):
    """The rule of such points, those whose part is nought left out."""
    return tuple([pair for pair in zip(points, parts_at(row, points)) if pair[1] != NOUGHT])


def need_points(row, points):
    need_row(row)
    if not are_points(points) or len(points) > len(row):
        raise BadPoints(points)


def parts_for(row, points):
    need_points(row, points)
    return parts_at(row, points)


def rule_for(row, points):
    need_points(row, points)
    return rule_at(row, points)


def exact_until(row, rule):
    """How many moments of the row, from the first one on, are the sums by the rule."""
    many = 0
    while many < len(row) and moment_of(rule, many) == row[many]:
        many += 1
    return many


def exact_to(row, rule, number):
    need_row(row)
    need_rule(rule)
    return exact_until(row, rule) > need_between(number, 0, len(row) - 1)


def spread_of(row, rule):
    need_row(row)
    return exact_until(row, need_rule(rule)) - 1
