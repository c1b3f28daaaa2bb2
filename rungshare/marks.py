"""What a share with the moments of a row can have at marks."""

from rungshare.bare import NOUGHT, ONE, added, divided, is_below, lessened, poly_added, poly_at, poly_scaled
from rungshare.bare import square_sum, timed
from rungshare.errors import BadLoad, BadOpen, BadPaper
from rungshare.ladders import has_end, is_ladder, norms, rungs_of
from rungshare.polys import is_poly
from rungshare.ratios import need_fraction, need_positive
from rungshare.rows import is_share, moment_of, need_row
from rungshare.rowshares import ladder_or_none, need_form, shared_ladder

MOST_MARKS = 4
FORMS = (("left", 2), ("square", 2), ("even", 2))


def is_balanced(ladder):
    """Whether a ladder is open, with as many levels as steps."""
    return not has_end(ladder) and len(ladder[1]) == len(ladder[2])


def balanced_ladder(row):
    """The ladder, open with as many levels as steps, of a row that is known to be one."""
    ladder = shared_ladder(row)
    if not is_balanced(ladder):
        raise BadOpen(row)
    return ladder


def need_load(thing):
    """Pairs as those of a share, but fewer."""
    if not is_share(thing) or len(thing) > MOST_MARKS:
        raise BadLoad(thing)


def less_load(row, load):
    """What is left of the moments of a row without the load."""
    return tuple([lessened(moment, moment_of(load, number)) for number, moment in enumerate(row)])


def is_nothing(left):
    return all([moment == NOUGHT for moment in left])


def ladder_left(left):
    """The ladder of what is left, None if this is no row of a share."""
    return ladder_or_none(left) if left[0][0] > 0 else None


def does_leave(left):
    """Whether what is left is a row of a share, or nothing."""
    return is_nothing(left) or ladder_left(left) is not None


def left_row(row, load):
    need_row(row)
    need_load(load)
    balanced_ladder(row)
    return less_load(row, load)


def can_be_there(row, load):
    return does_leave(left_row(row, load))


def most_by(ladder, mark):
    """The most at a mark, by a ladder that is open with as many levels as steps."""
    whole = NOUGHT
    for poly, norm in zip(rungs_of(ladder), norms(ladder)):
        worth = poly_at(poly, mark)
        whole = added(whole, divided(timed(worth, worth), norm))
    return divided(ONE, whole)


def least_by(ladder, mark):
    """The polynomial with the worth 1 at the mark whose square has the least sum, by such a ladder."""
    whole = ()
    for poly, norm in zip(rungs_of(ladder), norms(ladder)):
        whole = poly_added(whole, poly_scaled(poly, divided(poly_at(poly, mark), norm)))
    return poly_scaled(whole, most_by(ladder, mark))


def most_at(row, mark):
    need_row(row)
    need_fraction(mark)
    return most_by(balanced_ladder(row), mark)


def least_square(row, mark):
    need_row(row)
    need_fraction(mark)
    return least_by(balanced_ladder(row), mark)


def need_weight_ladder(row, mark, weight):
    """The ladder of the row, behind the errors of all three."""
    need_row(row)
    need_fraction(mark)
    need_positive(weight)
    return balanced_ladder(row)


def weight_paper(row, mark, weight):
    ladder = need_weight_ladder(row, mark, weight)
    left = less_load(row, ((mark, weight),))
    if does_leave(left):
        return ("left", ladder_left(left))
    word = "even" if weight == most_by(ladder, mark) else "square"
    return (word, least_by(ladder, mark))


def does_left_hold(left, ladder):
    """Whether what is left has this ladder, or is nothing, if it is None."""
    if ladder is None:
        return is_nothing(left)
    return is_ladder(ladder) and ladder_left(left) == ladder


def does_hold(row, mark, weight, paper):
    """Whether a paper that has the form of one on a weight holds."""
    left = less_load(row, ((mark, weight),))
    if paper[0] == "left":
        return does_left_hold(left, paper[1])
    poly = paper[1]
    if not is_poly(poly) or 2 * len(poly) - 1 > len(row) or poly_at(poly, mark) != ONE:
        return False
    if paper[0] == "square":
        return is_below(square_sum(row, poly), weight)
    return square_sum(row, poly) == weight and not does_leave(left)


def check_weight(row, mark, weight, paper):
    need_weight_ladder(row, mark, weight)
    word = need_form(paper, FORMS)
    if not does_hold(row, mark, weight, paper):
        raise BadPaper(word)
    return word
