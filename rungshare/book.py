"""A book, which hears the moments of a share one by one."""

from rungshare.errors import BadHeard, BadNumber, NothingLeft
from rungshare.ladders import has_end
from rungshare.nexts import does_fit, fits_behind
from rungshare.ratios import is_whole, need_positive
from rungshare.rows import MOST_MOMENTS
from rungshare.rowshares import shared_ladder


class Trial:
    """What stands over a block, behind which a book is as it was ahead of it."""

    def __init__(self, led):
        self.led = led
        self.begun = led.row

    def __enter__(self):
        self.begun = self.led.row
        return self.led

    def __exit__(self, kind, value, trace):
        self.led.row = self.begun


class Book:
    """A row that is of a share, and grows by what fits behind it."""

    def __init__(self, total):
        self.row = (need_positive(total),)

    def __len__(self):
        return len(self.row[1:])

    def __eq__(self, other):
        return isinstance(other, Book) and self.row == other.row

    @property
    def row_now(self):
        return self.row

    def hear(self, mark):
        if not does_fit(self.row, mark):
            raise BadHeard(mark)
        self.row = self.row + (mark,)
        return None if len(self.row) == MOST_MOMENTS else self.fits_now()

    def ladder_now(self):
        return shared_ladder(self.row)

    def is_closed(self):
        return has_end(self.ladder_now())

    def fits_now(self):
        return fits_behind(self.row)

    def undo(self, many=1):
        if not is_whole(many) or many < 1:
            raise BadNumber(many)
        if many > len(self.row) - 1:
            raise NothingLeft(many)
        self.row = self.row[:len(self.row) - many]

    def copy(self):
        other = Book(self.row[0])
        other.row = self.row
        return other

    def trial(self):
        return Trial(self)


def under(manager, deed):
    with manager as one:
        return deed(one)
    return None
