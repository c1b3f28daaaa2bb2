"""Whether a row is of a share: its ladder, or a square or a rest that tells why not."""

from rungshare.bare import NOUGHT, ONE, divided, next_rung, row_sum, square_sum
from rungshare.errors import BadPaper, NoShare
from rungshare.ladders import is_ladder
from rungshare.polys import is_poly
from rungshare.ratios import is_whole
from rungshare.rows import need_row

FORMS = (("ladder", 2), ("square", 2), ("rest", 3))


def climb(row):
    """The rung polynomials, the sums of their squares and the levels, as far as the row tells them.

    It stops at the first sum that is not above nought; that of the last
    polynomial is lacking if its square is longer than the row.
    """
    polys = [(ONE,)]
    sums = [row[0]]
    levels = []
    while sums[-1][0] > 0 and 2 * len(levels) + 1 < len(row):
        level = divided(square_sum(row, polys[-1], 1), sums[-1])
        step = divided(sums[-1], sums[-2]) if levels else NOUGHT
        before = polys[-2] if levels else ()
        polys.append(next_rung(before, polys[-1], level, step))
        levels.append(level)
        if 2 * len(levels) < len(row):
            sums.append(square_sum(row, polys[-1]))
    return (polys, sums, levels)


def first_rest(row, poly, shift=0):
    """The first power of x, by which, and by the shift, the polynomial has a sum that is not nought, or None."""
    for number in range(len(row) - shift - len(poly) + 1):
        if row_sum(row, poly, shift + number) != NOUGHT:
            return number
    return None


def paper_of(row):
    """The paper on a row that is known to be one."""
    polys, sums, levels = climb(row)
    if sums[-1][0] < 0:
        return ("square", polys[-1])
    if sums[-1] == NOUGHT:
        number = first_rest(row, polys[-1])
        if number is not None:
            return ("rest", polys[-1], number)
    steps = [divided(one, before) for before, one in zip(sums, sums[1:])]
    return ("ladder", (row[0], tuple(levels), tuple(steps)))


def ladder_or_none(row):
    """The ladder of a row that is known to be one, None if it is of no share."""
    paper = paper_of(row)
    return paper[1] if paper[0] == "ladder" else None


def shared_ladder(row):
    """The ladder of a row that is known to be one."""
    paper = paper_of(row)
    if paper[0] != "ladder":
        raise NoShare(paper)
    return paper[1]


def row_paper(row):
    return paper_of(need_row(row))


def is_of_share(row):
    return row_paper(row)[0] == "ladder"


def ladder_of(row):
    return shared_ladder(need_row(row))


def pivots(row):
    return tuple(climb(need_row(row))[1])


def need_form(paper, forms):
    """The first word of a paper that is a tuple of one of these words and as many things as told."""
    if isinstance(paper, tuple) and len(paper) > 0 and isinstance(paper[0], str):
        for word, many in forms:
            if paper[0] == word and len(paper) == many:
                return word
    raise BadPaper("form")


def does_square_hold(row, poly):
    """Whether the square of it has a sum below nought."""
    return is_poly(poly) and 2 * len(poly) - 1 <= len(row) and square_sum(row, poly)[0] < 0


def does_rest_hold(row, poly, number):
    """Whether its square has the sum nought, but not it times that power of x."""
    if not is_poly(poly) or len(poly) == 0 or 2 * len(poly) - 1 > len(row):
        return False
    if not is_whole(number) or number < 0 or len(poly) + number > len(row):
        return False
    return square_sum(row, poly) == NOUGHT and row_sum(row, poly, number) != NOUGHT


def does_hold(row, paper):
    """Whether a paper that has the form of one of a row holds."""
    if paper[0] == "square":
        return does_square_hold(row, paper[1])
    if paper[0] == "rest":
        return does_rest_hold(row, paper[1], paper[2])
    return is_ladder(paper[1]) and paper_of(row) == paper


def check_row(row, paper):
    need_row(row)
    word = need_form(paper, FORMS)
    if not does_hold(row, paper):
        raise BadPaper(word)
    return word
