import random
import unittest
from fractions import Fraction

from rungshare.errors import BadFraction, BadOpen, BadRow, NoShare
from rungshare.ladders import row_of
from rungshare.marks import most_at
from rungshare.parts import part_bound, two_numbers
from rungshare.rows import moments, need_share
from samples import BIG, BIGGER, Case, frac, fracs, level_ladders, last_of, model_moments, rows_not_level
from samples import rows_of_no_share, some_fraction, some_share, worth, wrong_fractions, wrong_rows

PLAIN = fracs(1, 0, 1)


def some_threes(r, many=30):
    """Rows of three fractions that are of a share with an open ladder."""
    found = [PLAIN, fracs(2, 2, 3), fracs((1, 2), -1, 3)]
    for _ in range(many):
        found.append(model_moments(some_share(r, r.randint(2, 4), -4, 4), 2))
    return found


def middle_of(row):
    middle = worth(row[1]) / worth(row[0])
    return (middle, worth(row[2]) / worth(row[0]) - middle ** 2)


class Parts(Case):

    def test_known(self):
        self.same(part_bound(PLAIN, frac(-1)), ("most", frac(1, 2)))
        self.same(part_bound(PLAIN, frac(-3)), ("most", frac(1, 10)))
        self.same(part_bound(PLAIN, frac(0)), ("least", frac(0)))
        self.same(part_bound(PLAIN, frac(1)), ("least", frac(1, 2)))
        self.same(part_bound(PLAIN, frac(3)), ("least", frac(9, 10)))
        self.same(part_bound(fracs(2, 2, 3), frac(1)), ("least", frac(0)))
        self.same(part_bound(fracs(2, 2, 3), frac(0)), ("most", frac(1, 3)))
        self.same(two_numbers(PLAIN, frac(1)), ((frac(-1), frac(1, 2)), (frac(1), frac(1, 2))))
        self.same(two_numbers(PLAIN, frac(-1)), ((frac(-1), frac(1, 2)), (frac(1), frac(1, 2))))
        self.same(two_numbers(PLAIN, frac(3)), ((frac(-1, 3), frac(9, 10)), (frac(3), frac(1, 10))))
        self.same(two_numbers(PLAIN, frac(-3)), ((frac(-3), frac(1, 10)), (frac(1, 3), frac(9, 10))))

    def test_bounds(self):
        r = random.Random(391)
        for row in some_threes(r):
            middle, spread = middle_of(row)
            self.assertGreater(spread, 0)
            marks = [middle, middle + 1, middle - 1, middle + Fraction(1, 10 ** 9), middle - Fraction(1, 10 ** 9)]
            for mark in marks + [worth(some_fraction(r)) for _ in range(3)]:
                square = (middle - mark) ** 2
                if mark < middle:
                    wanted = ("most", frac(spread / (spread + square)))
                else:
                    wanted = ("least", frac(square / (spread + square)))
                self.same(self.twice(part_bound, row, frac(mark)), wanted)

    def test_no_share_goes_beyond(self):
        r = random.Random(392)
        for _ in range(60):
            share = some_share(r, r.randint(2, 6), -3, 3)
            row = moments(share, 2)
            marks = [worth(n) for n, _ in share] + [worth(some_fraction(r, 4)) for _ in range(3)]
            for mark in marks:
                part = sum([worth(w) for n, w in share if worth(n) <= mark]) / worth(row[0])
                word, bound = part_bound(row, frac(mark))
                self.assertTrue(part <= worth(bound) if word == "most" else part >= worth(bound))

    def test_two_numbers(self):
        r = random.Random(393)
        for row in some_threes(r):
            middle, _ = middle_of(row)
            for mark in (middle + 1, middle - 1, middle + Fraction(1, 10 ** 9), worth(some_fraction(r))):
                if mark == middle:
                    continue
                share = self.twice(two_numbers, row, frac(mark))
                self.same(model_moments(need_share(share), 2), row)
                self.assertEqual(len(share), 2)
                weights = dict(share)
                self.same(weights[frac(mark)], most_at(row, frac(mark)))
                if mark < middle:
                    # The first bound is reached.
                    self.same(part_bound(row, frac(mark)), ("most", frac(worth(share[0][1]) / worth(row[0]))))
                    self.same(share[0][0], frac(mark))
                else:
                    # Short of the mark there is just as little as the bound tells.
                    self.same(part_bound(row, frac(mark)), ("least", frac(worth(share[0][1]) / worth(row[0]))))
                    self.same(share[1][0], frac(mark))

    def test_other_lengths(self):
        for ladder in level_ladders(394):
            row = row_of(ladder, last_of(ladder))
            for deed in (part_bound, two_numbers):
                if len(row) != 3:
                    self.assertIs(self.refused(BadOpen, row, deed, row, frac(10 ** 6)), row)
                    self.refused(BadFraction, 7, deed, row, 7)
                else:
                    self.twice(deed, row, frac(10 ** 6))

    def test_rows_refused(self):
        for deed in (part_bound, two_numbers):
            for row in [fracs(5), fracs(1, 2), fracs(1, 0, 1, 0), fracs(1, 0, 0),
                        fracs(1, 0, 1, 0, 2)] + rows_not_level(395):
                self.assertIs(self.refused(BadOpen, row, deed, row, frac(0)), row)
                self.refused(BadFraction, (2, 2), deed, row, (2, 2))
            for row, paper in rows_of_no_share(396):
                self.refused(NoShare, paper, deed, row, frac(0))
                self.refused(BadFraction, None, deed, row, None)

    def test_the_middle(self):
        for row in some_threes(random.Random(397)):
            middle = frac(middle_of(row)[0])
            self.assertIs(self.refused(BadFraction, middle, two_numbers, row, middle), middle)
            self.same(part_bound(row, middle), ("least", (0, 1)))
        # What the row lacks is told ahead of the mark that is its middle.
        for row in [fracs(1, 0), fracs(1, 0, 0), fracs(1, 0, 1, 0, 2)]:
            self.refused(BadOpen, row, two_numbers, row, frac(0))
        self.refused(NoShare, ("square", fracs(0, 1)), two_numbers, fracs(1, 0, -1), frac(0))

    def test_many_figures(self):
        row = fracs(BIG, BIGGER, BIG)
        share = two_numbers(row, frac(1, BIG))
        self.same(model_moments(share, 2), row)
        self.same(worth(part_bound(row, frac(-BIG))[1]) < Fraction(1, BIG), True)

    def test_wrong(self):
        rows, fractions = (BadRow, wrong_rows()), (BadFraction, wrong_fractions())
        self.each_refused(part_bound, (PLAIN, frac(1)), [rows, fractions])
        self.each_refused(two_numbers, (PLAIN, frac(1)), [rows, fractions])


if __name__ == "__main__":
    unittest.main()
