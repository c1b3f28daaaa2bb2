import random
import unittest
from fractions import Fraction

from rungshare.book import Book, under
from rungshare.errors import BadFraction, BadHeard, BadNumber, NothingLeft, RungError, TooMany
from rungshare.ladders import is_ended
from rungshare.marks import most_at
from rungshare.nexts import next_fits
from rungshare.rows import moments
from rungshare.rowshares import is_of_share, ladder_of
from samples import ANY, BIG, Case, frac, fracs, rows_of_any_kind, some_fraction, some_share, worth, wrong_above
from samples import wrong_fractions, wrong_integers


class Oops(Exception):
    pass


class Hold:
    """A manager that gives what it is made with, and tells whether errors end with it."""

    def __init__(self, given, ends):
        self.given = given
        self.ends = ends
        self.seen = []

    def __enter__(self):
        self.seen.append("in")
        return self.given

    def __exit__(self, *told):
        self.seen.append(told[0])
        return self.ends


def book_of(row):
    book = Book(row[0])
    for moment in row[1:]:
        book.hear(moment)
    return book


class Books(Case):

    def test_known(self):
        book = Book(frac(1))
        self.same(book.row_now, fracs(1))
        self.same(len(book), 0)
        self.same(book.ladder_now(), (frac(1), (), ()))
        self.same(book.fits_now(), ("any",))
        self.same(book.hear(frac(0)), ("from", frac(0)))
        self.same(book.hear(frac(1)), ("any",))
        self.same(book.hear(frac(0)), ("from", frac(1)))
        self.assertIs(book.is_closed(), False)
        self.same(book.hear(frac(1)), ("only", frac(0)))
        self.assertIs(book.is_closed(), True)
        self.same(book.row_now, fracs(1, 0, 1, 0, 1))
        self.same(book.ladder_now(), (frac(1), fracs(0, 0), fracs(1, 0)))
        self.same(len(book), 4)
        self.same(book.undo(), None)
        self.same(book.row_now, fracs(1, 0, 1, 0))
        self.same(book.undo(3), None)
        self.same(book.row_now, fracs(1))

    def test_hears(self):
        for row in rows_of_any_kind(471, 40):
            book = Book(row[0])
            for k, moment in enumerate(row[1:], start=1):
                before = row[:k]
                if not is_of_share(row[:k + 1]):
                    self.assertIs(self.refused(BadHeard, moment, book.hear, moment), moment)
                    self.same(book.row_now, before)
                    self.same(book.fits_now(), next_fits(before))
                    break
                got = book.hear(moment)
                self.same(book.row_now, row[:k + 1])
                self.same(got, None if k == 8 else next_fits(row[:k + 1]))
                self.same(len(book), k)
                self.same(book.ladder_now(), ladder_of(row[:k + 1]))
                self.assertIs(book.is_closed(), is_ended(ladder_of(row[:k + 1])))
                if k < 8:
                    self.same(book.fits_now(), got)

    def test_closed(self):
        r = random.Random(472)
        for many in range(1, 5):
            row = moments(some_share(r, many), 8)
            book = book_of(row[:2 * many + 1])
            self.assertIs(book.is_closed(), True)
            for moment in row[2 * many + 1:]:
                self.same(book.fits_now(), ("only", moment))
                for wrong in (frac(worth(moment) + 1), frac(worth(moment) - Fraction(1, 10 ** 20))):
                    self.refused(BadHeard, wrong, book.hear, wrong)
                book.hear(moment)
            self.assertIs(book.is_closed(), True)

    def test_most(self):
        r = random.Random(473)
        for _ in range(6):
            row = moments(some_share(r, 6), 8)
            for mark in [some_fraction(r) for _ in range(4)]:
                book, last = Book(row[0]), worth(row[0])
                for k in range(1, 9):
                    book.hear(row[k])
                    if k % 2 == 0:
                        most = worth(most_at(book.row_now, mark))
                        self.assertLessEqual(most, last)
                        last = most

    def test_nine(self):
        row = moments(some_share(random.Random(474), 6), 8)
        for full in (row, fracs(*[1] * 9)):
            book = book_of(full)
            self.same(len(book), 8)
            self.refused(TooMany, 9, book.fits_now)
            for mark in (frac(1), full[-1], frac(10 ** 50)):
                self.refused(TooMany, 9, book.hear, mark)
            self.refused(BadFraction, None, book.hear, None)
            self.same(book.row_now, full)
            book.undo()
            self.same(book.hear(full[-1]), None)
            self.same(book.row_now, full)

    def test_undo(self):
        row = moments(some_share(random.Random(475), 3), 8)
        for many in range(9):
            for back in range(1, 11):
                book = book_of(row[:many + 1])
                if back > many:
                    self.refused(NothingLeft, back, book.undo, back)
                    self.same(book.row_now, row[:many + 1])
                else:
                    self.assertIs(book.undo(back), None)
                    self.same(book.row_now, row[:many + 1 - back])
                    self.same(len(book), many - back)
        book = book_of(row)
        book.undo(many=3)
        self.same(book.row_now, row[:6])
        book.undo()
        self.same(book.row_now, row[:5])
        for bad in wrong_integers() + [0, -1, -BIG]:
            self.assertIs(self.refused(BadNumber, bad, book.undo, bad), bad)
        self.refused(NothingLeft, BIG, book.undo, BIG)
        self.refused(NothingLeft, 1, Book(frac(2)).undo)
        self.refused(BadNumber, 0, Book(frac(2)).undo, 0)
        self.same(book.row_now, row[:5])

    def test_copies(self):
        row = moments(some_share(random.Random(476), 3), 8)
        book = book_of(row[:4])
        other = book.copy()
        self.assertIs(type(other), Book)
        self.assertIsNot(other, book)
        self.assertTrue(other == book)
        other.hear(row[4])
        self.same(book.row_now, row[:4])
        book.undo(2)
        self.same(other.row_now, row[:5])
        self.assertFalse(other == book)
        self.same(other.copy().row_now, row[:5])

    def test_equal(self):
        book = book_of(fracs(1, 0, 1))
        self.assertIs(book == book_of(fracs(1, 0, 1)), True)
        self.assertIs(book != book_of(fracs(1, 0, 1)), False)
        self.assertIs(book == book, True)
        for row in [fracs(1), fracs(1, 0), fracs(1, 0, 2), fracs(2, 0, 1), fracs(1, 0, 1, 0)]:
            self.assertIs(book == book_of(row), False)
            self.assertIs(book != book_of(row), True)
        for thing in ANY + [fracs(1, 0, 1), Hold(1, 2), Book]:
            self.assertIs(book == thing, False)
            self.assertIs(thing == book, False)
        longer = book_of(fracs(1, 0, 1, 0))
        longer.undo()
        self.assertIs(book == longer, True)

    def test_trials(self):
        book = book_of(fracs(1, 0))
        with book.trial() as one:
            self.assertIs(one, book)
            one.hear(frac(5))
            one.hear(frac(7))
            self.same(book.row_now, fracs(1, 0, 5, 7))
        self.same(book.row_now, fracs(1, 0))
        with book.trial():
            book.undo()
            book.hear(frac(3))
        self.same(book.row_now, fracs(1, 0))
        with self.assertRaises(Oops):
            with book.trial():
                book.hear(frac(5))
                raise Oops()
        self.same(book.row_now, fracs(1, 0))
        with self.assertRaises(BadHeard) as caught:
            with book.trial():
                book.hear(frac(5))
                book.hear(frac(1))
                book.hear(frac(-9))
        self.same(caught.exception.given, frac(-9))
        self.same(book.row_now, fracs(1, 0))
        for _ in range(2):
            with book.trial():
                book.hear(frac(5))
                break
        self.same(book.row_now, fracs(1, 0))

    def test_a_trial_used_twice(self):
        book = book_of(fracs(1, 0))
        trial = book.trial()
        book.hear(frac(2))
        for row in (fracs(1, 0, 2), fracs(1, 0, 2, 1), fracs(1)):
            # Each block begins when it is entered, not when the trial was made.
            with trial as one:
                self.assertIs(one, book)
                self.same(book.row_now, row)
                if len(book):
                    book.undo(len(book))
                book.hear(frac(9))
            self.same(book.row_now, row)
            with self.assertRaises(Oops):
                with trial:
                    book.hear(frac(10 ** 9))
                    raise Oops()
            self.same(book.row_now, row)
            if row == fracs(1, 0, 2):
                book.hear(frac(1))
            elif len(book) > 0:
                book.undo(len(book))

    def test_trials_within(self):
        book = book_of(fracs(1, 0))
        with book.trial():
            book.hear(frac(5))
            with book.trial():
                book.hear(frac(6))
                self.same(len(book), 3)
            self.same(book.row_now, fracs(1, 0, 5))
        self.same(book.row_now, fracs(1, 0))
        copy = book.copy()
        with book.trial():
            copy.hear(frac(4))
        self.same(copy.row_now, fracs(1, 0, 4))

    def test_under(self):
        book = book_of(fracs(1, 0))
        self.same(under(book.trial(), lambda one: one.hear(frac(5))), ("any",))
        self.same(book.row_now, fracs(1, 0))
        self.assertIs(under(book.trial(), lambda one: one), book)
        with self.assertRaises(BadHeard) as caught:
            under(book.trial(), lambda one: [one.hear(frac(5)), one.hear(frac(7)), one.hear(frac(-1))])
        self.same(caught.exception.given, frac(-1))
        self.same(book.row_now, fracs(1, 0))
        for thing in (None, 0, "x", (), [1], book):
            for ends in (False, True, None, 1):
                hold = Hold(thing, ends)
                self.assertIs(under(hold, lambda one: one), thing)
                self.same(hold.seen, ["in", None])

    def test_under_with_errors(self):
        def fails(one):
            self.assertEqual(one, 7)
            raise Oops(one)
        for ends in (True, 1, "yes"):
            hold = Hold(7, ends)
            self.assertIs(under(hold, fails), None)
            self.assertEqual(hold.seen, ["in", Oops])
        for ends in (False, None, 0):
            hold = Hold(7, ends)
            with self.assertRaises(Oops):
                under(hold, fails)
            self.assertEqual(hold.seen, ["in", Oops])
        book = book_of(fracs(1, 0))
        with self.assertRaises(NothingLeft):
            under(book.trial(), lambda one: one.undo(2))
        self.assertIs(under(Hold(book, True), lambda one: one.undo(2)), None)
        self.assertIs(under(Hold(book, True), lambda one: one.hear(frac(-1))), None)
        self.same(book.row_now, fracs(1, 0))
        self.assertIs(under(Hold(book, False), lambda one: one.undo()), None)
        self.same(book.row_now, fracs(1))

    def test_refused_changes_nothing(self):
        book = book_of(fracs(1, 0, 1, 0))
        for deed, args in [(book.hear, (frac(0),)), (book.hear, ((2, 2),)), (book.hear, (None,)), (book.undo, (9,)),
                           (book.undo, (0,))]:
            with self.assertRaises((RungError, NothingLeft)):
                deed(*args)
            self.same(book.row_now, fracs(1, 0, 1, 0))

    def test_a_row_that_was_told_stays(self):
        book = book_of(fracs(1, 0))
        row = book.row_now
        book.hear(frac(1))
        self.same(row, fracs(1, 0))
        self.same(book.row_now, fracs(1, 0, 1))

    def test_wrong(self):
        self.each_refused(Book, (frac(1),), [(BadFraction, wrong_above())])
        book = Book(frac(1))
        for bad in wrong_fractions():
            self.assertIs(self.refused(BadFraction, bad, book.hear, bad), bad)
        self.same(book.row_now, fracs(1))
        self.same(Book(frac(1, BIG)).row_now, fracs((1, BIG)))


if __name__ == "__main__":
    unittest.main()
