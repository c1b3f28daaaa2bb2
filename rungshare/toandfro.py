"""Pairs of polynomials whose roots go to and fro."""

from rungshare.bare import ONE, monic, opposite, poly_divided
from rungshare.errors import BadPaper, BadPoly
from rungshare.ladders import is_ladder
from rungshare.polys import is_poly
from rungshare.ratios import is_whole
from rungshare.rowshares import need_form

FORMS = (("ladder", 2), ("turn", 2))
HIGHEST = 4


def is_led(thing):
    """Whether it is a polynomial whose last fraction is 1."""
    return is_poly(thing) and len(thing) > 0 and thing[-1] == ONE


def need_pair(poly, other):
    if not is_led(poly) or len(poly) < 2 or len(poly) > HIGHEST + 1:
        raise BadPoly(poly)
    if not is_led(other) or len(other) != len(poly) - 1:
        raise BadPoly(other)
    return (poly, other)


def turned_pair(poly, other):
    """The paper on a pair that is known to be one."""
    levels = []
    steps = []
    while len(other) > 1:
        line, rest = poly_divided(poly, other)
        if len(rest) != len(other) - 1 or rest[-1][0] >= 0:
            return ("turn", len(steps) + 1)
        levels.append(opposite(line[0]))
        steps.append(opposite(rest[-1]))
        poly, other = other, monic(rest)
    levels.append(opposite(poly[0]))
    return ("ladder", (ONE, tuple(levels[::-1]), tuple(steps[::-1])))


def pair_paper(poly, other):
    need_pair(poly, other)
    return turned_pair(poly, other)


def do_go(poly, other):
    return pair_paper(poly, other)[0] == "ladder"


def check_pair(poly, other, paper):
    told = pair_paper(poly, other)
    word = need_form(paper, FORMS)
    # True is equal to 1, and no number of a turn.
    if not (is_ladder(paper[1]) or is_whole(paper[1])) or paper != told:
        raise BadPaper(word)
    return word
