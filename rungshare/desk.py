"""A desk, which leads a book by words."""

from rungshare.book import Book
from rungshare.errors import RungError, TooMany
from rungshare.ladders import in_turn, row_to
from rungshare.marks import most_at
from rungshare.rows import MOST_MOMENTS
from rungshare.rowshares import shared_ladder
from rungshare.texts import fraction_text, fraction_word, read_row, row_text
from rungshare.wordlines import is_unsigned, pair_by

NO = "no"
LAST_TOLD = 20


def book_of(row):
    """The book that has heard a row."""
    shared_ladder(row)
    led = Book(row[0])
    for moment in row[1:]:
        led.hear(moment)
    return led


def fits_answer(told):
    """What fits, as a book tells it; None stands for nothing, as there are 9."""
    if told is None:
        return "full"
    return " ".join([told[0]] + [fraction_word(mark) for mark in told[1:]])


def say_row(led):
    return row_text(led.row_now)


def say_next(led):
    return fits_answer(None if len(led.row_now) == MOST_MOMENTS else led.fits_now())


def say_ladder(led):
    some = in_turn(led.ladder_now())
    return " ".join([fraction_word(one) for one in some]) if some else "none"


def say_closed(led):
    return "yes" if led.is_closed() else NO


def say_heard(led):
    return str(len(led))


def say_undo(led):
    if len(led) == 0:
        return "nothing"
    led.undo()
    return "done"


def say_hear(led, word):
    return fits_answer(led.hear(pair_by(word)))


def say_most(led, word):
    return fraction_text(most_at(led.row_now, pair_by(word)))


def say_moment(led, word):
    row = led.row_now
    if not is_unsigned(word):
        return NO
    number = int(word)
    if number < len(row):
        return fraction_word(row[number])
    if number > LAST_TOLD or not led.is_closed():
        return NO
    return fraction_word(row_to(led.ladder_now(), number)[-1])


ALONE = {"row": say_row, "next": say_next, "ladder": say_ladder, "closed": say_closed, "heard": say_heard,
         "undo": say_undo}
WITH_ONE = {"hear": say_hear, "most": say_most, "moment": say_moment}


def answer(led, words):
    """The answer to the words of a line; some of them are refused by an error."""
    if len(words) == 1 and words[0] in ALONE:
        deed = ALONE[words[0]]
        return deed(led)
    if len(words) == 2 and words[0] in WITH_ONE:
        deed = WITH_ONE[words[0]]
        return deed(led, words[1])
    return NO


class Desk:
    """What answers lines by a book."""

    def __init__(self, text):
        self.led = book_of(read_row(text))

    @property
    def book(self):
        return self.led

    def say(self, line):
        if not isinstance(line, str):
            return NO
        try:
            return answer(self.led, line.split(" "))
        except (RungError, TooMany):
            return NO
