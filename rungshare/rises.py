"""Shares from nought on: the rises of a row."""

from rungshare.bare import NOUGHT, ONE, added, divided, poly_lessened, poly_scaled, poly_shifted
from rungshare.bare import row_sum, square_sum, timed
from rungshare.errors import BadPaper, BadRises
from rungshare.ladders import are_above
from rungshare.polys import is_poly
from rungshare.ratios import are_fractions, is_whole, need_positive
from rungshare.rows import need_row
from rungshare.rowshares import does_rest_hold, does_square_hold, first_rest, need_form

MOST_RISES = 8
FORMS = (("rises", 2), ("square", 2), ("rest", 3), ("line", 2), ("line rest", 3))


def are_rises(thing):
    if not are_fractions(thing, MOST_RISES):
        return False
    return are_above(thing) or (thing[-1] == NOUGHT and are_above(thing[:-1]))


def need_rises(thing):
    if not are_rises(thing):
        raise BadRises(thing)
    return thing


def led_ladder(total, rises):
    """The ladder that rises, known to be such, lead to."""
    levels = [added(low, high) for low, high in zip((NOUGHT,) + rises[1::2], rises[::2])]
    steps = [timed(low, high) for low, high in zip(rises[::2], rises[1::2])]
    if rises and rises[-1] == NOUGHT and len(levels) > len(steps):
        # The rise behind the last one counts as nought, and so does its step.
        steps.append(NOUGHT)
    return (total, tuple(levels), tuple(steps))


def rises_ladder(total, rises):
    return led_ladder(need_positive(total), need_rises(rises))


def climb_by_rises(row):
    """Polynomials by turns, one for each moment, with sums: of its square, of x times that of the next one.

    It stops at the first sum that is not above nought. Each rise is a sum
    divided by the one ahead.
    """
    polys = [(ONE,)]
    sums = [row[0]]
    while sums[-1][0] > 0 and len(sums) < len(row):
        odd = len(sums) & 1
        rise = divided(sums[-1], sums[-2]) if len(sums) > 1 else NOUGHT
        before = polys[-2] if len(sums) > 1 else ()
        polys.append(poly_lessened(poly_shifted(polys[-1], 1 - odd), poly_scaled(before, rise)))
        sums.append(square_sum(row, polys[-1], odd))
    return (polys, sums)


def rises_told(row):
    """The paper on a row that is known to be one."""
    polys, sums = climb_by_rises(row)
    odd = (len(sums) - 1) & 1
    if sums[-1][0] < 0:
        return ("line" if odd else "square", polys[-1])
    if sums[-1] == NOUGHT:
        number = first_rest(row, polys[-1], odd)
        if number is not None:
            return ("line rest" if odd else "rest", polys[-1], number)
    return ("rises", tuple([divided(one, before) for before, one in zip(sums, sums[1:])]))


def rises_paper(row):
    return rises_told(need_row(row))


def rises_of(row):
    paper = rises_paper(row)
    return paper[1] if paper[0] == "rises" else None


def does_line_hold(row, poly):
    """Whether x times the square of it has a sum below nought."""
    return is_poly(poly) and 2 * len(poly) <= len(row) and square_sum(row, poly, 1)[0] < 0


def does_line_rest_hold(row, poly, number):
    """Whether x times its square has the sum nought, but not it times x and that power of x."""
    if not is_poly(poly) or len(poly) == 0 or 2 * len(poly) > len(row):
        return False
    if not is_whole(number) or number < 0 or len(poly) + number >= len(row):
        return False
    return square_sum(row, poly, 1) == NOUGHT and row_sum(row, poly, number + 1) != NOUGHT


def does_hold(row, paper):
    """Whether a paper that has the form of one of rises holds."""
    if paper[0] == "square":
        return does_square_hold(row, paper[1])
    if paper[0] == "rest":
        return does_rest_hold(row, paper[1], paper[2])
    if paper[0] == "line":
        return does_line_hold(row, paper[1])
    if paper[0] == "line rest":
        return does_line_rest_hold(row, paper[1], paper[2])
    return are_rises(paper[1]) and rises_told(row) == paper


def check_rises(row, paper):
    need_row(row)
    word = need_form(paper, FORMS)
    if not does_hold(row, paper):
        raise BadPaper(word)
    return word
