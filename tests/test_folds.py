import random
import unittest

from rungshare.errors import BadRow
from rungshare.folds import folded, unfolded, weighed_by_x
from rungshare.ladders import row_of
from rungshare.rises import rises_ladder
from rungshare.rowshares import ladder_of
from samples import BIG, BIGGER, Case, frac, fracs, some_above, told, worth, worths, wrong_rows


class Folds(Case):

    def test_weighed(self):
        self.same(weighed_by_x(fracs(1, 2)), fracs(2))
        self.same(weighed_by_x(fracs(1, (1, 2), 0, -3)), fracs((1, 2), 0, -3))
        self.same(self.twice(weighed_by_x, fracs(*range(1, 10))), fracs(*range(2, 10)))
        self.same(weighed_by_x(fracs(1, (1, BIG), BIG)), fracs((1, BIG), BIG))

    def test_folded(self):
        self.same(folded(fracs(3)), fracs(3))
        self.same(folded(fracs(3, 4)), fracs(3, 0, 4))
        self.same(folded(fracs(3, -4, 0)), fracs(3, 0, -4, 0, 0))
        self.same(folded(fracs(1, 2, 3, 4)), fracs(1, 0, 2, 0, 3, 0, 4))
        self.same(folded(fracs(1, 2, 3, 4, 5)), fracs(1, 0, 2, 0, 3, 0, 4, 0, 5))
        for many in range(6, 10):
            self.same(self.twice(folded, fracs(*range(1, many + 1))), fracs(1, 0, 2, 0, 3, 0, 4, 0, 5))

    def test_unfolded(self):
        self.same(unfolded(fracs(3)), fracs(3))
        self.same(unfolded(fracs(3, 0, 4)), fracs(3, 4))
        self.same(unfolded(fracs(1, 0, 2, 0, 3, 0, 4, 0, 5)), fracs(1, 2, 3, 4, 5))
        self.same(unfolded(fracs(1, 0, 0, 0, -7)), fracs(1, 0, -7))
        for many in range(1, 10):
            row = fracs(BIG, *range(many - 1))
            self.same(self.twice(unfolded, folded(row)), row[:5])

    def test_facts(self):
        r = random.Random(111)
        for many in list(range(1, 9)) * 3:
            rises = tuple([some_above(r) for _ in range(many)])
            row = row_of(rises_ladder(frac(7, 2), rises), many)
            sums = told([one + other for one, other in zip(worths(rises[::2]), worths(rises[1::2]))])
            products = told([one * other for one, other in zip(worths(rises[1::2]), worths(rises[2::2]))])
            total = frac(worth((7, 2)) * worth(rises[0]))
            self.same(ladder_of(weighed_by_x(row)), (total, sums, products))
            half = min(many, 4)
            self.same(ladder_of(folded(row)), (frac(7, 2), fracs(*[0] * half), rises[:half]))

    def test_refused(self):
        for row in [fracs(1), fracs(BIG), fracs(1, 0), fracs(1, -1, 5), fracs(1, (-1, BIG)), fracs(1, 0, 1, 0, 1)]:
            self.assertIs(self.refused(BadRow, row, weighed_by_x, row), row)
        for row in [fracs(1, 0), fracs(1, 0, 1, 0), fracs(1, 0, 1, 0, 1, 0, 1, 0), fracs(1, 1, 1), fracs(1, (1, BIG), 0),
                    fracs(1, 0, 1, -1, 1), fracs(1, 0, 1, 0, 1, 0, 1, (1, BIGGER), 1), fracs(1, 2)]:
            self.assertIs(self.refused(BadRow, row, unfolded, row), row)

    def test_wrong(self):
        rows = (BadRow, wrong_rows())
        self.each_refused(weighed_by_x, (fracs(1, 2),), [rows])
        self.each_refused(folded, (fracs(1, 2),), [rows])
        self.each_refused(unfolded, (fracs(1, 0, 2),), [rows])


if __name__ == "__main__":
    unittest.main()
