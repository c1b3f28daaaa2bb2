"""Sheets: a row, and sayings of it that are so or not."""

from rungshare.bare import reduced
from rungshare.ladders import has_end
from rungshare.marks import is_balanced, most_by
from rungshare.nexts import does_fit
from rungshare.rows import MOST_MOMENTS, moments, need_row
from rungshare.rowshares import ladder_or_none
from rungshare.terms import share_of
from rungshare.texts import row_in, term_in
from rungshare.wordlines import Line, lines_of

# What stands behind each word: I an integer without "-", F a fraction, T a term.
SAYINGS = {"share": "", "ended": "", "level": "IF", "step": "IF", "fits": "F", "most": "FF", "of": "T"}


def thing_in(line, letter):
    """The next thing of a saying, as its letter tells; a fraction by its worth."""
    if letter == "I":
        return line.take_whole()
    if letter == "T":
        return term_in(line)
    top, bottom = line.take_fraction()
    return reduced(top, bottom)


def saying_in(line):
    word = line.take_one_of(list(SAYINGS))
    things = tuple([thing_in(line, letter) for letter in SAYINGS[word]])
    line.end()
    return (word,) + things


def is_at(some, number, wanted):
    """Whether a tuple has that number, and this there."""
    return number < len(some) and some[number] == wanted


def with_share(saying):
    """A saying of a term with its share instead, any other one as it is."""
    return ("of", share_of(saying[1])) if saying[0] == "of" else saying


def is_so_by(row, ladder, saying):
    """Whether a saying of the ladder that a row has is so."""
    word = saying[0]
    if word == "ended":
        return has_end(ladder)
    if word == "level":
        return is_at(ladder[1], saying[1], saying[2])
    if word == "step":
        return saying[1] > 0 and is_at(ladder[2], saying[1] - 1, saying[2])
    if word == "fits":
        return len(row) < MOST_MOMENTS and does_fit(row, saying[1])
    if word == "most":
        return is_balanced(ladder) and most_by(ladder, saying[1]) == saying[2]
    return True


def is_so(row, ladder, saying):
    """Whether a saying is so of a row, whose ladder may be None."""
    if saying[0] == "of":
        return moments(saying[1], len(row) - 1) == row
    return ladder is not None and is_so_by(row, ladder, saying)


def judged(text):
    lines = lines_of(text)
    row = row_in(Line(0, lines[0]))
    sayings = [saying_in(Line(number, line)) for number, line in enumerate(lines[1:], start=1)]
    need_row(row)
    shared = [with_share(saying) for saying in sayings]
    ladder = ladder_or_none(row)
    return tuple([is_so(row, ladder, saying) for saying in shared])
