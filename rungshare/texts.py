"""Texts of fractions, rows and terms, and back."""

from rungshare.errors import BadText
from rungshare.ratios import need_fraction
from rungshare.rows import MOST_MOMENTS, need_row
from rungshare.terms import MOST_WORDS, SHAPES, kids_in, need_term
from rungshare.wordlines import Line, lines_of

# How many pairs a share may have.
COUNTS = ("1", "2", "3", "4", "5", "6")


def fraction_word(one):
    """The text of a fraction that is known to be one."""
    return str(one[0]) if one[1] == 1 else str(one[0]) + "/" + str(one[1])


def fraction_text(one):
    return fraction_word(need_fraction(one))


def row_text(row):
    return " ".join([fraction_word(moment) for moment in need_row(row)])


def own_words(term):
    """The words of what stands in a term besides its word and its terms."""
    words = []
    for letter, thing in zip(SHAPES[term[0]], term[1:]):
        if letter == "S":
            words.append(str(len(thing)))
            for number, weight in thing:
                words.extend([fraction_word(number), fraction_word(weight)])
        elif letter != "T":
            words.append(fraction_word(thing))
    return words


def term_words(term):
    words = [term[0]] + own_words(term)
    for kid in kids_in(term):
        words.extend(term_words(kid))
    return words


def term_text(term):
    return " ".join(term_words(need_term(term)))


def row_in(line):
    """The fractions of a line that has no others: a row by its form."""
    some = [line.take_fraction()]
    while not line.is_done() and len(some) < MOST_MOMENTS:
        some.append(line.take_fraction())
    line.end()
    return tuple(some)


def pairs_in(line):
    pairs = []
    for _ in range(int(line.take_one_of(COUNTS))):
        number = line.take_fraction()
        weight = line.take_fraction()
        pairs.append((number, weight))
    return tuple(pairs)


def own_things(line, shape):
    """What stands in a term besides its word and its terms, by the letters of its shape."""
    return tuple([pairs_in(line) if letter == "S" else line.take_fraction() for letter in shape if letter != "T"])


def term_in(line):
    """The next words of a line as a term by its form."""
    if line.terms == MOST_WORDS:
        line.refuse()
    line.terms += 1
    word = line.take_one_of(list(SHAPES))
    own = own_things(line, SHAPES[word])
    kids = tuple([term_in(line) for letter in SHAPES[word] if letter == "T"])
    return (word,) + kids + own


def need_one(lines):
    """Refuses a line too many."""
    if len(lines) > 1:
        raise BadText(1, 0)


def read_row(text):
    lines = lines_of(text)
    row = row_in(Line(0, lines[0]))
    need_one(lines)
    return need_row(row)


def read_term(text):
    lines = lines_of(text)
    line = Line(0, lines[0])
    term = term_in(line)
    line.end()
    need_one(lines)
    return need_term(term)
