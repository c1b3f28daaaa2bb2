"""Strings told back from their polynomials, turn by turn."""

from rungshare.bare import ONE, divided, poly_lessened, poly_scaled, poly_shifted
from rungshare.errors import BadPaper, BadPoly
from rungshare.polys import is_poly
from rungshare.ratios import is_whole
from rungshare.rowshares import need_form
from rungshare.strings import MOST_BEADS, is_string

FORMS = (("string", 2), ("turn", 2))


def need_polys(poly, other):
    """Polynomials of degrees as those of a string."""
    if not is_poly(poly) or len(poly) < 1 or len(poly) > MOST_BEADS:
        raise BadPoly(poly)
    if not is_poly(other) or len(other) != len(poly) + 1:
        raise BadPoly(other)


def taken(one, other):
    """The fraction by which other, of as high a degree, is taken away from one, and what is left.

    None if that is not above nought, or what is left is of a degree less by more than one.
    """
    part = divided(one[-1], other[-1])
    left = poly_lessened(one, poly_scaled(other, part))
    if part[0] <= 0 or len(left) != len(one) - 1:
        return None
    return (part, left)


def taken_apart(poly, other):
    """The paper on a pair that is known to be as wanted."""
    many = len(poly)
    parts = []
    height, slant = poly, other
    while len(parts) < 2 * many:
        if len(parts) & 1:
            told = taken(height, slant)
            # At the last turn all that is left is the slant ahead of the string.
            if told is None or (len(height) == 1 and slant != (ONE,)):
                return ("turn", len(parts) + 1)
            height = told[1]
        else:
            # To put x times the height is to take it away with all signs changed.
            told = taken(slant, poly_scaled(poly_shifted(height, 1), (-1, 1)))
            if told is None:
                return ("turn", len(parts) + 1)
            slant = told[1]
        parts.append(told[0])
    return ("string", (tuple(parts[1::2][::-1]), tuple(parts[::2][::-1])))


def string_paper(poly, other):
    need_polys(poly, other)
    return taken_apart(poly, other)


def string_from(poly, other):
    paper = string_paper(poly, other)
    return paper[1] if paper[0] == "string" else None


def check_string(poly, other, paper):
    told = string_paper(poly, other)
    word = need_form(paper, FORMS)
    # True is equal to 1, and no number of a turn.
    if not (is_string(paper[1]) or is_whole(paper[1])) or paper != told:
        raise BadPaper(word)
    return word
