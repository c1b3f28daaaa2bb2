"""Terms: shares made from shares by words."""

from rungshare.bare import NOUGHT, added, timed
from rungshare.errors import BadTerm
from rungshare.gather import all_sums, gathered
from rungshare.ratios import is_fraction, is_positive
from rungshare.rows import MOST_PAIRS, is_share

# What stands behind each word: S a share, T a term, F a fraction, N one that is not nought, P one above it.
SHAPES = {"pairs": "S", "moved": "TF", "scaled": "TN", "heavier": "TP", "mixed": "TT", "added": "TT", "squared": "T"}
MOST_WORDS = 20
MOST_DEEP = 8


def does_suit(letter, thing):
    """Whether a thing is as its letter tells; terms are judged by themselves."""
    if letter == "S":
        return is_share(thing)
    if letter == "F":
        return is_fraction(thing)
    if letter == "N":
        return is_fraction(thing) and thing != NOUGHT
    return letter == "T" or is_positive(thing)


def is_formed(thing):
    """Whether it has the form of a term, but for the terms in it."""
    if not isinstance(thing, tuple) or len(thing) == 0 or not isinstance(thing[0], str):
        return False
    if thing[0] not in SHAPES or len(thing) != len(SHAPES[thing[0]]) + 1:
        return False
    return all([does_suit(letter, part) for letter, part in zip(SHAPES[thing[0]], thing[1:])])


def kid_places(word):
    """Where the terms stand in a term with this word."""
    return [place + 1 for place, letter in enumerate(SHAPES[word]) if letter == "T"]


def need_forms(thing):
    """The first walk: each thing ahead of what stands in it."""
    many = 0
    ahead = [(thing, ())]
    while ahead:
        here, path = ahead.pop()
        many += 1
        if many > MOST_WORDS or len(path) >= MOST_DEEP:
            raise BadTerm(())
        if not is_formed(here):
            raise BadTerm(path)
        kids = [(here[place], path + (place,)) for place in kid_places(here[0])]
        ahead.extend(kids[::-1])


def pairs_by(term, kids):
    """The pairs of a term with the shares of the terms in it, those of like numbers not yet together."""
    word = term[0]
    if word == "pairs":
        return term[1]
    if word == "mixed":
        return kids[0] + kids[1]
    if word == "added":
        return all_sums(kids[0], kids[1])
    if word == "moved":
        return [(added(number, term[2]), weight) for number, weight in kids[0]]
    if word == "scaled":
        return [(timed(number, term[2]), weight) for number, weight in kids[0]]
    if word == "heavier":
        return [(number, timed(weight, term[2])) for number, weight in kids[0]]
    return [(timed(number, number), weight) for number, weight in kids[0]]


def share_at(term, path):
    """The second walk, to the share of a term at this path: what stands in it ahead of the whole."""
    kids = [share_at(term[place], path + (place,)) for place in kid_places(term[0])]
    share = gathered(pairs_by(term, kids))
    if len(share) > MOST_PAIRS:
        raise BadTerm(path)
    return share


def share_of(term):
    need_forms(term)
    return share_at(term, ())


def need_term(thing):
    share_of(thing)
    return thing


def kids_in(term):
    """The terms that stand in a term that is known to be one."""
    return tuple([term[place] for place in kid_places(term[0])])


def kids_of(term):
    return kids_in(need_term(term))
