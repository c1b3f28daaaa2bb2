"""Signs of polynomials: how many roots lie in a stretch, fences around them, and roots that are fractions."""

from math import gcd

from rungshare.bare import ONE, added, is_below, opposite, poly_scaled, reduced, slope, timed
from rungshare.bare import whole_at, whole_poly, whole_rest, without_common
from rungshare.divide import plain_of
from rungshare.errors import BadBounds, BadFractions, BadPoly
from rungshare.polys import is_poly
from rungshare.ratios import are_fractions, is_fraction, need_fraction


def need_sloped(poly):
    """A polynomial of a degree of at least 1."""
    if not is_poly(poly) or len(poly) < 2:
        raise BadPoly(poly)
    return poly


def sign_steps(poly):
    """The sign row as pairs of a factor and integers without a common divisor.

    The factor of each of the first two is what it is times its integers; that
    of each other one leads to this from the one that stands two ahead of it.
    """
    plain = plain_of(poly)
    steps = [whole_poly(plain), whole_poly(slope(plain))]
    while True:
        grown, rest = whole_rest(steps[-2][1], steps[-1][1])
        if not rest:
            return steps
        common, rest = without_common(rest)
        steps.append((reduced(common, grown), tuple([-part for part in rest])))


def sign_row(poly):
    steps = sign_steps(need_sloped(poly))
    factors = [ONE, ONE]
    row = []
    for step, wholes in steps:
        factors.append(timed(factors[-2], step))
        row.append(poly_scaled([(part, 1) for part in wholes], factors[-1]))
    return tuple(row)


def sign_wholes(poly):
    """The sign row, each of it times something above nought."""
    return [wholes for _, wholes in sign_steps(poly)]


def whole_changes(wholes):
    """How many neighbours of integers have unlike signs, noughts left out."""
    signs = [whole > 0 for whole in wholes if whole != 0]
    return sum([1 for one, other in zip(signs, signs[1:]) if one != other])


def fraction_changes(some):
    return whole_changes([part[0] for part in some])


def changes_of(some):
    if not isinstance(some, tuple) or not are_fractions(some, len(some)):
        raise BadFractions(some)
    return fraction_changes(some)


def changes_at(row, mark):
    return whole_changes([whole_at(wholes, mark) for wholes in row])


def changes_far(row, side):
    """The changes beyond all roots, on the side 1 or -1."""
    return whole_changes([wholes[-1] if len(wholes) & 1 else side * wholes[-1] for wholes in row])


def count_in(row, low, high):
    """How many roots are greater than low and no greater than high, by a sign row."""
    return changes_at(row, low) - changes_at(row, high)


def count_all(row):
    return changes_far(row, -1) - changes_far(row, 1)


def roots_in(poly, low, high):
    need_sloped(poly)
    need_fraction(low)
    need_fraction(high)
    if is_below(high, low):
        raise BadBounds((low, high))
    return count_in(sign_wholes(poly), low, high)


def root_count(poly):
    return count_all(sign_wholes(need_sloped(poly)))


def is_real(poly):
    row = sign_wholes(need_sloped(poly))
    return count_all(row) == len(row[0]) - 1


def beyond_roots(wholes):
    """A power of 2, perhaps below 1, that is greater than all roots, signs left out."""
    # Twice the greatest K-th root of what stands K powers ahead of the last one, divided by it (Fujiwara).
    bits = wholes[-1].bit_length()
    degree = len(wholes) - 1
    doublings = [(part.bit_length() - bits) // (degree - k) + 1 for k, part in enumerate(wholes[:-1]) if part != 0]
    many = max(doublings, default=0) + 1
    return (1 << many, 1) if many >= 0 else (1, 1 << -many)


def fence_of(poly):
    row = sign_wholes(need_sloped(poly))
    far = beyond_roots(row[0])
    fence = []
    ahead = [(opposite(far), far, changes_at(row, opposite(far)), changes_at(row, far))]
    while ahead:
        low, high, before, behind = ahead.pop()
        if before - behind == 1:
            fence.append((low, high))
        elif before - behind > 1:
            middle = timed(added(low, high), (1, 2))
            between = changes_at(row, middle)
            # The left half is put on last, so it is taken first: the fence ascends.
            ahead.append((middle, high, between, behind))
            ahead.append((low, middle, before, between))
    return tuple(fence)


def is_stretch(thing):
    """Whether it is a pair of fractions, the first one less."""
    if not isinstance(thing, tuple) or len(thing) != 2:
        return False
    return is_fraction(thing[0]) and is_fraction(thing[1]) and is_below(thing[0], thing[1])


def is_fence(poly, value):
    row = sign_wholes(need_sloped(poly))
    if not isinstance(value, tuple) or len(value) != count_all(row):
        return False
    if not all([is_stretch(pair) for pair in value]):
        return False
    if any([is_below(other[0], one[1]) for one, other in zip(value, value[1:])]):
        return False
    return all([count_in(row, low, high) == 1 for low, high in value])


def rest_at(wholes, place, by):
    """The rest, by an integer, of the worth of integers at a place."""
    worth = 0
    for whole in reversed(wholes):
        worth = (worth * place + whole) % by
    return worth


def whole_slope(wholes):
    return [k * wholes[k] for k in range(1, len(wholes))]


def plain_rests(wholes):
    """A modulus and all roots by it, each one plain: the slope has an inverse there.

    The last integer has no common divisor with the modulus, either, so each
    root that is a fraction has its place among them, and no two the same.
    """
    steep = whole_slope(wholes)
    by = 2
    while True:
        if gcd(wholes[-1], by) == 1:
            small = [whole % by for whole in wholes]
            places = [place for place in range(by) if rest_at(small, place, by) == 0]
            if all([gcd(rest_at(steep, place, by), by) == 1 for place in places]):
                return (by, places)
        by += 1


def lifted(wholes, place, by, most):
    """The root by a power of the modulus that is greater than most, from one by the modulus; and that power."""
    steep = whole_slope(wholes)
    inverse = [k for k in range(by) if k * rest_at(steep, place, by) % by == 1][0]
    while by <= most:
        by *= by
        # Newton's rule doubles at each turn how far the root and the inverse are right.
        place = (place - rest_at(wholes, place, by) * inverse) % by
        inverse = inverse * (2 - rest_at(steep, place, by) * inverse) % by
    return (place, by)


def rational_tops(wholes):
    """The last integer times each root that is a fraction, ascending, of integers without roots alike."""
    last = abs(wholes[-1])
    most = last + max([abs(part) for part in wholes])
    start, places = plain_rests(wholes)
    tops = []
    for place in places:
        root, by = lifted(wholes, place, start, 2 * most)
        top = root * last % by
        if 2 * top > by:
            top -= by
        if whole_at(wholes, reduced(top, last)) == 0:
            tops.append(top)
    return sorted(tops)


def rational_roots(poly):
    wholes = whole_poly(plain_of(need_sloped(poly)))[1]
    return tuple([reduced(top, abs(wholes[-1])) for top in rational_tops(wholes)])
