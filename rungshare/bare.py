"""Fractions, polynomials and determinants, reckoned without asking what is passed.

Nothing here bounds the number of fractions of a polynomial: what a reckoning
needs on its way may be longer than what the functions of the interface let.
"""

from math import gcd

NOUGHT = (0, 1)
ONE = (1, 1)


def reduced(top, bottom):
    """The fraction of two integers, bottom not 0."""
    common = gcd(top, bottom)
    if bottom < 0:
        common = -common
    return (top // common, bottom // common)


def added(one, other):
    return reduced(one[0] * other[1] + other[0] * one[1], one[1] * other[1])


def lessened(one, other):
    return reduced(one[0] * other[1] - other[0] * one[1], one[1] * other[1])


def timed(one, other):
    return reduced(one[0] * other[0], one[1] * other[1])


def divided(one, other):
    return reduced(one[0] * other[1], one[1] * other[0])


def opposite(one):
    return (-one[0], one[1])


def raised(one, number):
    """The power of a fraction, number from 0 on."""
    top = 1
    bottom = 1
    for _ in range(number):
        top *= one[0]
        bottom *= one[1]
    return (top, bottom)


def is_below(one, other):
    return one[0] * other[1] < other[0] * one[1]


def paired_sum(some, others):
    """The sum of the products of each of some with that of others at the same place."""
    whole = NOUGHT
    for one, other in zip(some, others):
        whole = added(whole, timed(one, other))
    return whole


def trimmed(some):
    """The polynomial of a list of fractions, noughts perhaps at its end."""
    many = len(some)
    while many > 0 and some[many - 1] == NOUGHT:
        many -= 1
    return tuple(some[:many])


def at_power(poly, number):
    """What a polynomial has at a power of x, nought where it has none."""
    return poly[number] if number < len(poly) else NOUGHT


def poly_added(one, other):
    many = max(len(one), len(other))
    return trimmed([added(at_power(one, k), at_power(other, k)) for k in range(many)])


def poly_lessened(one, other):
    many = max(len(one), len(other))
    return trimmed([lessened(at_power(one, k), at_power(other, k)) for k in range(many)])


def poly_scaled(poly, factor):
    return trimmed([timed(part, factor) for part in poly])


def poly_shifted(poly, number):
    """A polynomial times that power of x."""
    return (NOUGHT,) * number + poly if poly else ()


def poly_timed(one, other):
    whole = [NOUGHT] * (len(one) + len(other))
    for i, part in enumerate(one):
        for j, piece in enumerate(other):
            whole[i + j] = added(whole[i + j], timed(part, piece))
    return trimmed(whole)


def poly_at(poly, mark):
    """The worth of a polynomial at a fraction."""
    factor, wholes = whole_poly(poly)
    return timed(factor, reduced(whole_at(wholes, mark), bottom_power(mark, len(wholes) - 1)))


def bottom_power(mark, number):
    return raised(mark, number)[1]


def poly_divided(one, other):
    """The pair of quotient and rest of one by other, other not ()."""
    rest = list(one)
    many = max(0, len(one) - len(other) + 1)
    quotient = [NOUGHT] * many
    for place in reversed(range(many)):
        part = divided(rest[place + len(other) - 1], other[-1])
        quotient[place] = part
        for k, piece in enumerate(other):
            rest[place + k] = lessened(rest[place + k], timed(part, piece))
    return (trimmed(quotient), trimmed(rest))


def monic(poly):
    """A polynomial, not (), divided by its last fraction."""
    return tuple([divided(part, poly[-1]) for part in poly])


def slope(poly):
    return tuple([timed(poly[k], (k, 1)) for k in range(1, len(poly))])


def next_rung(before, here, level, step):
    """x less the level, times here, less the step times before."""
    more = poly_lessened(poly_shifted(here, 1), poly_scaled(here, level))
    return poly_lessened(more, poly_scaled(before, step))


def row_sum(row, poly, shift=0):
    """The sum, by a row, of a polynomial times that power of x."""
    return paired_sum(poly, row[shift:])


def square_sum(row, poly, shift=0):
    """The sum, by a row, of the square of a polynomial times that power of x."""
    return row_sum(row, poly_timed(poly, poly), shift)


def whole_poly(poly):
    """A fraction above nought, and integers without a common divisor: poly is their product."""
    bottom = 1
    for part in poly:
        bottom = bottom // gcd(bottom, part[1]) * part[1]
    wholes = [part[0] * (bottom // part[1]) for part in poly]
    common, wholes = without_common(wholes)
    return (reduced(common, bottom), wholes)


def without_common(wholes):
    """The greatest common divisor of integers (1 of noughts alone), and all divided by it."""
    common = 0
    for whole in wholes:
        common = gcd(common, whole)
    common = max(common, 1)
    return (common, tuple([whole // common for whole in wholes]))


def whole_at(wholes, mark):
    """The worth at a fraction, times the power of its bottom that makes it an integer."""
    worth = 0
    bottom = 1
    for whole in reversed(wholes):
        worth = worth * mark[0] + whole * bottom
        bottom *= mark[1]
    return worth


def whole_rest(one, other):
    """An integer above 0, and the rest of one, that many times, by other: all of integers."""
    rest = list(one)
    factor = 1
    while len(rest) >= len(other):
        common = gcd(rest[-1], other[-1])
        if other[-1] < 0:
            common = -common
        grown = other[-1] // common
        taken = rest[-1] // common
        place = len(rest) - len(other)
        rest = [grown * part for part in rest]
        for k, piece in enumerate(other):
            rest[place + k] -= taken * piece
        factor *= grown
        while rest and rest[-1] == 0:
            rest.pop()
    return (factor, rest)


def determinant(rows):
    """That of a square of fractions, a list of rows."""
    factor = ONE
    wholes = []
    for row in rows:
        part, line = whole_poly(row)
        factor = timed(factor, part)
        wholes.append(line)
    return timed(factor, (whole_determinant(wholes), 1))


def whole_determinant(rows):
    """That of a square of integers; no division in it leaves a rest."""
    table = [list(row) for row in rows]
    many = len(rows)
    sign = 1
    before = 1
    for k in range(many):
        found = [i for i in range(k, many) if table[i][k] != 0]
        if not found:
            return 0
        if found[0] != k:
            table[k], table[found[0]] = table[found[0]], table[k]
            sign = -sign
        for i in range(k + 1, many):
            clear_row(table, many, k, i, before)
        before = table[k][k]
    return sign * before


def clear_row(table, many, k, i, before):
    """Changes the row i of a table of so many rows by the row k, whose pivot stands at (k, k)."""
    for j in range(k + 1, many):
        crossed = table[i][j] * table[k][k] - table[i][k] * table[k][j]
        table[i][j] = crossed // before
