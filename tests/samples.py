"""What the tests pass: good and wrong things of each kind, and the same reckoned by Python's own fractions."""

import copy
import random
import unittest
from fractions import Fraction

from rungshare.errors import BadText
from rungshare.rowshares import row_paper

BIG = 10 ** 60 - 1
BIGGER = 10 ** 59 + 7


def frac(top, bottom=1):
    """The pair of a number, by Python's own fractions."""
    worth = Fraction(top, bottom)
    return (worth.numerator, worth.denominator)


def fracs(*some):
    """A tuple of fractions: each a whole number, a pair of top and bottom, or a Fraction."""
    return tuple([frac(*one) if isinstance(one, tuple) else frac(one) for one in some])


def worth(pair):
    return Fraction(pair[0], pair[1])


def worths(pairs):
    return [worth(pair) for pair in pairs]


def told(some):
    """The tuple of pairs of a list of Fractions."""
    return tuple([frac(one) for one in some])


def poly_told(some):
    """The polynomial of a list of Fractions."""
    some = list(some)
    while some and some[-1] == 0:
        some.pop()
    return told(some)


def mul(one, other):
    """The product of two lists of Fractions."""
    whole = [Fraction(0)] * (len(one) + len(other))
    for i, a in enumerate(one):
        for j, b in enumerate(other):
            whole[i + j] += a * b
    while whole and whole[-1] == 0:
        whole.pop()
    return whole


def add(one, other):
    many = max(len(one), len(other))
    whole = [(one[k] if k < len(one) else Fraction(0)) + (other[k] if k < len(other) else 0) for k in range(many)]
    while whole and whole[-1] == 0:
        whole.pop()
    return whole


def at(poly, mark):
    return sum([part * Fraction(mark) ** k for k, part in enumerate(poly)], Fraction(0))


def by_row(row, poly, shift=0):
    """The sum of a list of Fractions, times that power of x, by a list of moments."""
    assert len(poly) + shift <= len(row) or not poly
    return sum([part * row[k + shift] for k, part in enumerate(poly)], Fraction(0))


def from_roots(*roots):
    """The polynomial, last fraction 1, with these roots."""
    whole = [Fraction(1)]
    for root in roots:
        whole = mul(whole, [-Fraction(*root) if isinstance(root, tuple) else -Fraction(root), Fraction(1)])
    return told(whole)


def times_polys(*polys):
    whole = [Fraction(1)]
    for poly in polys:
        whole = mul(whole, worths(poly))
    return told(whole)


def model_moments(share, top):
    return told([sum([worth(w) * worth(n) ** k for n, w in share], Fraction(0)) for k in range(top + 1)])


def model_rungs(ladder):
    """The rung polynomials, by the words of the document."""
    total, levels, steps = ladder
    polys = [[Fraction(1)]]
    for k, level in enumerate(levels):
        more = add(mul([Fraction(0), Fraction(1)], polys[-1]), mul([-worth(level)], polys[-1]))
        if k > 0:
            more = add(more, mul([-worth(steps[k - 1])], polys[-2]))
        polys.append(more)
    return polys


def model_row(ladder, top):
    """The row, each moment being the one by which a rung polynomial, times a power of x, has its sum."""
    total, levels, steps = ladder
    polys = model_rungs(ladder)
    norm = worth(total)
    norms = [norm]
    for step in steps:
        norm *= worth(step)
        norms.append(norm)
    row = [worth(total)]
    for number in range(1, top + 1):
        # x to the number is a rung polynomial times another power, and lesser powers.
        if number % 2 == 0 and number // 2 < len(polys) and number // 2 < len(norms):
            k, j, wanted = number // 2, number // 2, norms[number // 2]
        else:
            k = min((number + 1) // 2, len(polys) - 1)
            j, wanted = number - k, Fraction(0)
        row.append(wanted - sum([polys[k][i] * row[i + j] for i in range(k)], Fraction(0)))
    return told(row)


def some_fraction(r, size=9):
    return frac(r.randint(-size, size), r.randint(1, size))


def some_above(r, size=9):
    return frac(r.randint(1, size), r.randint(1, size))


def some_numbers(r, many, low=-9, high=9):
    """Ascending fractions, all unlike."""
    found = {}
    while len(found) < many:
        found[Fraction(r.randint(low * 6, high * 6), r.randint(1, 6))] = True
    return told(sorted(found))


def some_share(r, many, low=-9, high=9):
    return tuple([(number, some_above(r)) for number in some_numbers(r, many, low, high)])


def some_open(r, levels, steps):
    return (some_above(r), tuple([some_fraction(r) for _ in range(levels)]),
            tuple([some_above(r) for _ in range(steps)]))


def some_ended(r, many):
    total, levels, steps = some_open(r, many, many - 1)
    return (total, levels, steps + ((0, 1),))


def ladders(seed, rounds=3):
    """Ladders of every length."""
    r = random.Random(seed)
    found = []
    for _ in range(rounds):
        for many in range(5):
            found.append(some_open(r, many, many))
            if many < 4:
                found.append(some_open(r, many + 1, many))
            found.append(some_ended(r, many + 1))
    return found


def is_open(ladder):
    return not ladder[2] or ladder[2][-1] != (0, 1)


def last_of(ladder):
    """The number of the last moment of the ladder that is promised."""
    return len(ladder[1]) + len(ladder[2]) if is_open(ladder) else 8


def rows_of_any_kind(seed, many=60):
    """Rows of shares, with open and ended ladders, and others, near them and far from them."""
    r = random.Random(seed)
    found = [((1, 1),), fracs(1, 0), fracs(1, 0, 0), fracs(1, 1, 1, 1), fracs(1, 0, 0, 1), fracs(1, 0, -1)]
    for _ in range(many):
        top = r.randint(0, 8)
        row = model_moments(some_share(r, r.randint(1, 6), r.choice([-4, 0]), 4), top)
        found.append(row)
        other = list(row)
        place = r.randint(0, top)
        other[place] = frac(worth(other[place]) + r.choice([1, -1, Fraction(1, 1000), Fraction(-1, 1000)]))
        if other[0][0] > 0:
            found.append(tuple(other))
        found.append(told([r.randint(1, 4)] + [r.randint(-3, 5) for _ in range(top)]))
    return found


ANY = [
    None, True, False, 0, 1, -1, 7, -10 ** 59, BIG, "", "ladder", "form", "1/2", "0", b"", b"ladder", [], [1, 2],
    [(1, 1)], [[1, 1]], {}, {"given": 1}, {0: (1, 1)}, {1, 2}, {(1, 1)}, frozenset(), (), (1,), (None,), (1, 2, 3),
    ("ladder",), ((),), ((), ()), (((),),), ((1,), (1,)), ([], []), ({}, "x"), (1, "2"), (b"", ""), (None, None),
]

BAD_FRACTIONS = [
    (1, 0), (1, -1), (-1, -2), (0, 0), (0, 2), (0, -1), (2, 2), (2, 4), (-6, 3), (BIG, BIG), (True, 1), (1, True),
    (False, 1), (0, True), (True, True), ("1", 1), (1, "1"), (None, 1), (1, None), ([1], 1), (1, [1]), ((1, 1), 1),
    (1, (1, 1)), ((1, 1), (1, 1)), (b"1", 1), ({}, 1), ({1}, 1), (1,), (1, 1, 1), [1, 1], {1: 1}, ((1, 1),),
]


def model_is_fraction(thing):
    if not isinstance(thing, tuple) or len(thing) != 2:
        return False
    if any([isinstance(part, bool) or not isinstance(part, int) for part in thing]):
        return False
    return thing[1] >= 1 and Fraction(*thing).denominator == thing[1]


def model_are_fractions(thing, least, most):
    return isinstance(thing, tuple) and least <= len(thing) <= most and all([model_is_fraction(one) for one in thing])


def wrong_fractions():
    return BAD_FRACTIONS + [thing for thing in ANY if not model_is_fraction(thing)]


def wrong_above():
    return wrong_fractions() + fracs_apart(0, -1, (-1, 3), -BIG)


def wrong_from_nought():
    return wrong_fractions() + fracs_apart(-1, (-1, 3), -BIG)


def fracs_apart(*some):
    return list(fracs(*some))


def fractions_with_one_wrong(good):
    """The tuple with one wrong thing in it, at each place."""
    found = [list(good), dict(enumerate(good)), set(good), "x" * len(good)]
    for place in range(len(good)):
        for bad in BAD_FRACTIONS + [None, True, 1, "1", [], {}, {1}, b"1", ()]:
            found.append(good[:place] + (bad,) + good[place + 1:])
    return found


def wrong_tuples(most):
    """What is no tuple of at most so many fractions."""
    found = fractions_with_one_wrong(fracs(1, (1, 2), 3)) + [fracs(*range(1, most + 2)), fracs(*[0] * (most + 1))]
    return found + [thing for thing in ANY if not model_are_fractions(thing, 0, most)] + [(1, 2), (1, 1)]


def wrong_polys():
    return wrong_tuples(12) + [fracs(0), fracs(1, 0), fracs(0, 0), fracs(1, 2, 0), fracs(*[1] * 11 + [0])]


def wrong_rows():
    found = wrong_tuples(9) + [(), fracs(0), fracs(-1), fracs(0, 1), fracs(-1, 2, 3), fracs((-1, BIG), 1)]
    return found + [fracs(*[1] * 10)]


def wrong_shares():
    good = ((frac(-1), frac(1)), (frac(1, 2), frac(3)))
    found = [list(good), dict(good), set(good), (list(good[0]),), (good[0] + (1,),), (good[0][:1],), good[0]]
    found += [good[::-1], good[:1] * 2, ((frac(1), frac(1)), (frac(1), frac(2)))]
    found += [((frac(1, 2), frac(1)), (frac(1, 3), frac(1))), ((frac(-1), frac(1)), (frac(-2), frac(1)))]
    found += [((frac(1), frac(0)),), ((frac(1), frac(-1)),), good + ((frac(2), frac(0)),)]
    found += [tuple([(frac(k), frac(1)) for k in range(7)])]
    for bad in BAD_FRACTIONS + [None, True, 1, "1", []]:
        found += [((bad, frac(1)),), ((frac(1), bad),), good + ((bad, frac(1)),), good + ((frac(9), bad),)]
    return found + [thing for thing in ANY]


def wrong_ladders():
    good = (frac(1), fracs(1, 2), fracs(1, (1, 2)))
    found = [list(good), good[:2], good + ((),), (frac(0), (), ()), (frac(-1), (), ()), (frac(1), (), fracs(1))]
    found += [(frac(1), fracs(1, 2), ()), (frac(1), fracs(1, 2, 3), fracs(1)), (frac(1), fracs(1), fracs(1, 1))]
    found += [(frac(1), fracs(1), fracs(-1)), (frac(1), fracs(1, 2), fracs(-1)), (frac(1), fracs(1, 2), fracs(0))]
    found += [(frac(1), fracs(1, 2), fracs(0, 1)), (frac(1), fracs(1, 2), fracs(0, 0)), (frac(1), (), fracs(0))]
    found += [(frac(1), fracs(1, 2, 3), fracs(0, 1)), (frac(1), fracs(1, 2, 3), fracs(1, 0))]
    found += [(frac(1), fracs(1, 2), fracs(-1, 0)), (frac(1), fracs(1, 2, 3), fracs(1, 0, 0))]
    found += [(frac(1), fracs(1, 2, 3, 4, 5), fracs(1, 1, 1, 1)), (frac(1), fracs(1, 2, 3, 4, 5), fracs(1, 1, 1, 1, 1))]
    found += [(frac(1), fracs(*range(6)), fracs(1, 1, 1, 1, 1, 0)), (frac(1), fracs(*range(5)), fracs(1, 1, 1, 0))]
    for bad in BAD_FRACTIONS + [None, True, 1, "1", []]:
        found += [(bad, (), ()), (frac(1), (bad,), ()), (frac(1), fracs(1), (bad,)), (frac(1), (bad,), fracs(0))]
    for bad in [None, True, 1, "ab", b"", [], [(1, 1)], {}, {(1, 1)}, (1, 1)]:
        found += [(frac(1), bad, ()), (frac(1), (), bad), (frac(1), fracs(1), bad)]
    return found + ANY


def wrong_rises():
    good = fracs(1, 2, 3)
    found = fractions_with_one_wrong(good) + [fracs(-1), fracs(1, -1), fracs(0, 0), fracs(0, 1), fracs(1, 0, 1)]
    found += [fracs(1, 0, 0), fracs(-1, 0), fracs(*[1] * 9), fracs(*[1] * 8 + [0]), (1, 1)]
    return found + [thing for thing in ANY if thing != ()]


def some_table(r, many):
    """A table of so many rows, lower and upper below nought together at some places."""
    lower, upper = [], []
    for _ in range(many - 1):
        sign = r.choice([1, -1])
        lower.append(frac(sign * worth(some_above(r))))
        upper.append(frac(sign * worth(some_above(r))))
    return (tuple(lower), tuple([some_fraction(r) for _ in range(many)]), tuple(upper))


def some_rates(r, many, is_closed=False):
    """Rates of so many rungs; some chances that may be nought are."""
    found = []
    for k in range(many):
        up = r.randint(0 if k == many - 1 else 1, 5)
        down = r.randint(1, 5) if k > 0 else 0
        stay = r.randint(0, 3)
        if k == many - 1 and is_closed:
            up = 0
        if up + stay + down == 0:
            stay = 1
        found.append(tuple([frac(one, up + stay + down) for one in (up, stay, down)]))
    return tuple(found)


def some_string(r, many):
    return (tuple([some_above(r) for _ in range(many)]), tuple([some_above(r) for _ in range(many)]))


def wrong_tables():
    good = (fracs(1, -2), fracs(0, 1, 2), fracs(3, (-1, 2)))
    found = [list(good), good[:2], good + ((),), ((), (), ()), (fracs(1), (), fracs(1)), ((), fracs(1, 2), ())]
    found += [(fracs(1), fracs(1, 2), ()), ((), fracs(1, 2), fracs(1)), (fracs(1), fracs(1), fracs(1))]
    found += [(fracs(1), fracs(1, 2), fracs(0)), (fracs(0), fracs(1, 2), fracs(1)), (fracs(1), fracs(1, 2), fracs(-1))]
    found += [(fracs(1, 1), fracs(1, 2, 3), fracs(1, -1)), (fracs(1, 1), fracs(1, 2, 3), fracs(1, 0))]
    found += [(fracs(*[1] * 5), fracs(*[1] * 6), fracs(*[1] * 5)), (fracs(1, 1), fracs(1, 1), fracs(1, 1))]
    for bad in BAD_FRACTIONS + [None, True, 1, "1", [], ()]:
        found += [((), (bad,), ()), ((bad,), fracs(1, 2), fracs(1)), (fracs(1), fracs(1, 2), (bad,))]
        found += [(fracs(1), (frac(1), bad), fracs(1))]
    for bad in [None, True, 1, "ab", b"", [], [(1, 1)], {}, {(1, 1)}, (1, 1)]:
        found += [(bad, fracs(1), ()), ((), bad, ()), ((), fracs(1), bad), (bad, fracs(1, 2), fracs(1))]
    return found + ANY


def wrong_rates():
    up, stay, down = frac(1, 2), frac(1, 4), frac(1, 4)
    first = (frac(3, 4), frac(1, 4), frac(0))
    good = (first, (up, stay, down))
    found = [list(good), dict(enumerate(good)), good[1:], good[::-1], (first[:2],), (first + (frac(0),),),
             (list(first),)]
    found += [((frac(0), frac(1), frac(0)), good[1]), (first, (frac(1, 2), frac(1, 2), frac(0)))]
    found += [(first, (frac(0), frac(1, 2), frac(1, 2)), good[1]), (first, (frac(1, 2), frac(1, 2), frac(1, 2)))]
    found += [((frac(1, 2), frac(1, 4), frac(0)),), ((frac(1, 2), frac(1, 4), frac(1, 4)),),
              ((frac(2), frac(-1), frac(0)),)]
    found += [((frac(-1), frac(2), frac(0)),), (first, (frac(3, 2), frac(-1), frac(1, 2)))]
    found += [(first, (frac(1), frac(1), frac(-1))), (first, (frac(-1), frac(1), frac(1)))]
    found += [(first, good[1], (frac(1), frac(0), frac(0))), (first,) + (good[1],) * 5, ((), ()), (first, ()), first]
    for bad in BAD_FRACTIONS + [None, True, 1, "1", [], ()]:
        found += [((bad, frac(0), frac(0)),), ((frac(1), bad, frac(0)),), ((frac(1), frac(0), bad),)]
        found += [(first, (bad, stay, down)), (first, (up, bad, down)), (first, (up, stay, bad))]
    for bad in [None, True, 1, "abc", b"", [], {}, {(1, 1)}, (1, 1)]:
        found += [(bad,), (first, bad), (bad, good[1])]
    return found + ANY


def wrong_strings():
    good = (fracs(1, (1, 2)), fracs(2, 3))
    found = [list(good), good[:1], good + ((),), ((), ()), (fracs(1), ()), ((), fracs(1)), (fracs(1, 2), fracs(1))]
    found += [(fracs(1), fracs(1, 2)), (fracs(0), fracs(1)), (fracs(1), fracs(0)), (fracs(-1), fracs(1))]
    found += [(fracs(1), fracs(-1)), (fracs(1, 0), fracs(1, 1)), (fracs(1, 1), fracs(1, -1)), (fracs(*[1] * 6),) * 2]
    for bad in BAD_FRACTIONS + [None, True, 1, "1", [], ()]:
        found += [((bad,), fracs(1)), (fracs(1), (bad,)), ((frac(1), bad), fracs(1, 2)), (fracs(1, 2), (frac(1), bad))]
    for bad in [None, True, 1, "a", b"", [], [(1, 1)], {}, {(1, 1)}, (1, 1)]:
        found += [(bad, fracs(1)), (fracs(1), bad), (bad, bad)]
    return found + ANY


def wrong_points():
    found = fractions_with_one_wrong(fracs(-1, (1, 2), 3)) + [(), fracs(1, 1), fracs(2, 1), fracs(1, 3, 2),
                                                              fracs(*range(7))]
    return found + [fracs((1, 2), (1, 3)), fracs(-1, -2), (1, 1)] + ANY


def wrong_rules():
    good = ((frac(-1), frac(1)), (frac(1, 2), frac(-3)))
    found = [list(good), dict(good), set(good), (list(good[0]),), (good[0] + (1,),), (good[0][:1],), good[0], ()]
    found += [good[::-1], good[:1] * 2, ((frac(1), frac(1)), (frac(1), frac(2)))]
    found += [((frac(1, 2), frac(1)), (frac(1, 3), frac(1))), ((frac(-1), frac(1)), (frac(-2), frac(1)))]
    found += [((frac(1), frac(0)),), good + ((frac(2), frac(0)),), tuple([(frac(k), frac(1)) for k in range(7)])]
    for bad in BAD_FRACTIONS + [None, True, 1, "1", []]:
        found += [((bad, frac(1)),), ((frac(1), bad),), good + ((bad, frac(1)),), good + ((frac(9), bad),)]
    for bad in [None, True, 1, "ab", b"ab", [], {}, {(1, 1)}, (1, 1), ()]:
        found += [(bad,), good + (bad,)]
    return found + ANY


def wrong_ways(start=0):
    """What is no way from a low height."""
    down = (-1,) * (start + 1)
    found = [down, (1,) + down + (-1,), (0,) + down, down + (1, 1), (0,) * 9, (1,) * 9, (2,), (1, -2), (-2, 2), (0, 2)]
    found += [[1, -1], [0], {1: 1}, {1}, {0, 1}, (True,), (False,), (1, True), (0, False, 0), (None,), ("1",), (1, "0")]
    found += [((1,),), ([1],), (1, (0,)), ((),), "10", b"10", (b"1",), (BIG,), (-BIG,), (1, 1, 3, -1)]
    return found + [thing for thing in ANY if thing not in ((), (1,))]


def wrong_places():
    good = ((0, 0), (-2, 4))
    found = [list(good), dict(good), set(good), (), ((0, 0), (0, 0)), ((1, 2), (0, 1), (1, 2)), ((0, 0), [1, 1])]
    found += [((0, 0), (0, 1), (0, 2), (0, 3)), ((3, 0),), ((-3, 0),), ((0, 5),), ((0, -1),), ((BIG, 0),), ((0, BIG),)]
    found += [((True, 0),), ((0, True),), ((False, False),), (("0", 0),), ((0, "0"),), ((None, 0),), ((0, None),)]
    found += [((0, 0, 0),), ((0,),), ((),), (0, 0), ([0, 0],), ("00",), (b"00",), ({0: 0},), ({0, 1},), ((0, [0]),)]
    found += [(([0], 0),), ((0, {}),), (({}, 0),), ((0, (0,)),), ((0, 0), None), ((0, 0), (1, 5)), ((0, 0), (3, 1))]
    return found + ANY


def wrong_loads():
    """What is no load: as a share, but of at most 4 pairs."""
    return wrong_shares() + [tuple([(frac(k), frac(1)) for k in range(5)])]


def wrong_kinds():
    words = ["All", "free ", " stretch", "al", "alll", "stretched", "free\n", b"all", b"free", ["all"], ("all",),
             {"all"}, {"all": 1}]
    return words + ANY


def wrong_partings():
    """What is no parting of a number from 0 to 7."""
    found = [((1,),), ((0, 0),), ((1, 0),), ((0,), (0,)), ((0, 2),), ((0,), (2,)), ((1,), (0,)), ((0,), ()), ((), (0,))]
    found += [((0, 1), (1,)), ((0, 1), (1, 2)), ((-1,),), ((-1, 0),), ((0,), (2,), (1,)), ((0, 2), (1, 4)),
              ((0, 1, 1),)]
    found += [((2,), (0, 1)), ((1, 2), (0,)), ((0, 3), (2,), (1,)), ((0, 2, 1),), (tuple(range(8)),), ((0,), (7,))]
    found += [tuple([(k,) for k in range(8)]), ((0,), (BIG,)), ((-BIG, 0),), ((True,),), ((False,),), ((0, True),)]
    found += [((False, 1),), ((0,), (True,)), ((None,),), (("0",),), ((0, "1"),), (([0],),), (((0,),),), ((b"0",),)]
    found += [([0],), [(0,)], [[0]], ((0,), [1]), ((0,), {1}), ({0},), ({0: 0},), {(0,): 0}, {(0,)}, ("0",),
              ((0,), "1")]
    found += [(0,), (0, 1), ((0,), 1), ((0,), None), (range(1),), ((0, None),), ((0, (1,)),)]
    return found + [thing for thing in ANY if thing != ()]


def wrong_cumulants():
    return [thing for thing in wrong_tuples(8)] + [fracs(*[1] * 9), [], fracs(1)[0]]


def level_ladders(seed, rounds=3):
    """Open ladders with as many levels as steps."""
    return [ladder for ladder in ladders(seed, rounds) if is_open(ladder) and len(ladder[1]) == len(ladder[2])]


def rows_not_level(seed):
    """Rows of shares whose ladder is ended or has one level more."""
    found = [fracs(3, 1), fracs(1, 0, 0), fracs(1, 0, 1, 0), fracs(1, 0, 1, 0, 1), fracs(1, 1, 1, 1, 1, 1, 1, 1, 1)]
    for ladder in ladders(seed):
        if not is_open(ladder):
            found += [model_row(ladder, top) for top in range(2 * len(ladder[1]), 9)]
        elif len(ladder[1]) > len(ladder[2]):
            found.append(model_row(ladder, last_of(ladder)))
    return found


def rows_of_no_share(seed):
    """Pairs of a row and the paper that tells why it is of no share."""
    found = []
    for row in rows_of_any_kind(seed, 30):
        paper = row_paper(row)
        if paper[0] != "ladder":
            found.append((row, paper))
    return found


def wrong_integers():
    return [thing for thing in ANY if isinstance(thing, bool) or not isinstance(thing, int)] + [(1, 1), (0, 1), "1"]


def wrong_numbers(low, high):
    """What is no integer from low to high."""
    return wrong_integers() + [low - 1, high + 1, -BIG, BIG]


def same(one, other):
    """Whether they are the very same, or alike in kind and worth throughout."""
    if one is other:
        return True
    if type(one) is not type(other):
        return False
    if isinstance(one, (tuple, list)):
        return len(one) == len(other) and all([same(a, b) for a, b in zip(one, other)])
    return one == other


class Case(unittest.TestCase):
    """What the tests of all files ask."""

    def same(self, got, wanted):
        """The result, of plain tuples, integers, strings, True, False and None alone."""
        self.assertTrue(same(got, wanted), f"{got!r} is not {wanted!r}")

    def refused(self, error, field, deed, *args):
        """That the call raises just this error, twice alike, with this field the very thing, and changes nothing."""
        before = copy.deepcopy(args)
        fields = []
        for _ in range(2):
            with self.assertRaises(error) as caught:
                deed(*args)
            self.assertIs(type(caught.exception), error)
            fields.append(list(vars(caught.exception).values()))
        self.assertEqual(len(fields[0]), 1)
        self.assertTrue(same(fields[0][0], field), f"{fields[0][0]!r} is not {field!r}")
        self.assertTrue(same(fields[0][0], fields[1][0]))
        self.assertEqual(before, args)
        return fields[0][0]

    def refused_text(self, line, word, deed, *args):
        """That the call refuses a text at this word of this line, twice alike."""
        for _ in range(2):
            with self.assertRaises(BadText) as caught:
                deed(*args)
            self.assertTrue(same((caught.exception.line, caught.exception.word), (line, word)),
                            str(vars(caught.exception)))

    def each_refused(self, deed, good, wrong):
        """Every argument is refused, also with wrong ones behind it; wrong has (error, things) for each of them."""
        deed(*good)
        for place, (error, things) in enumerate(wrong):
            for thing in things:
                held = self.refused(error, thing, deed, *good[:place], thing, *good[place + 1:])
                self.assertIs(held, thing)
                for later in range(place + 1, len(wrong)):
                    behind = list(good[place + 1:])
                    behind[later - place - 1] = wrong[later][1][len(str(thing)) % len(wrong[later][1])]
                    self.assertIs(self.refused(error, thing, deed, *good[:place], thing, *behind), thing)
                behind = [things[0] for _, things in wrong[place + 1:]]
                self.assertIs(self.refused(error, thing, deed, *good[:place], thing, *behind), thing)

    def twice(self, deed, *args):
        """What the call returns, twice alike, the arguments being as before."""
        before = copy.deepcopy(args)
        got = deed(*args)
        self.same(deed(*args), got)
        self.assertEqual(before, args)
        return got
