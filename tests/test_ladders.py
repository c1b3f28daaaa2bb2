import unittest

from rungshare.errors import BadLadder, BadNumber
from rungshare.ladders import is_ended, need_ladder, norms, row_of, rung_polys
from rungshare.rowshares import ladder_of
from samples import BIG, BIGGER, Case, by_row, frac, fracs, is_open, ladders, last_of, model_row, model_rungs, mul
from samples import told, worth, worths, wrong_ladders, wrong_numbers

OPEN = (frac(2), fracs(1, (1, 2)), fracs(3))
ENDED = (frac(2), fracs(1, (1, 2)), fracs(3, 0))


class Ladders(Case):

    def test_need_ladder(self):
        for good in ladders(1) + [(frac(1), (), ()), (frac(1, BIG), fracs(-BIG), fracs((1, BIG)))]:
            self.assertIs(need_ladder(good), good)

    def test_is_ended(self):
        self.assertIs(is_ended(OPEN), False)
        self.assertIs(is_ended(ENDED), True)
        self.assertIs(is_ended((frac(1), (), ())), False)
        self.assertIs(is_ended((frac(1), fracs(0), ())), False)
        self.assertIs(is_ended((frac(1), fracs(0), fracs(0))), True)
        for ladder in ladders(2):
            self.assertIs(is_ended(ladder), not is_open(ladder))

    def test_rung_polys(self):
        self.same(rung_polys((frac(7), (), ())), (fracs(1),))
        self.same(rung_polys((frac(7), fracs(3), ())), (fracs(1), fracs(-3, 1)))
        self.same(rung_polys(OPEN), (fracs(1), fracs(-1, 1), fracs((-5, 2), (-3, 2), 1)))
        self.same(rung_polys(ENDED), rung_polys(OPEN))
        for ladder in ladders(3):
            polys = self.twice(rung_polys, ladder)
            self.assertEqual(len(polys), len(ladder[1]) + 1)
            self.same(polys, tuple([told(poly) for poly in model_rungs(ladder)]))
            for k, poly in enumerate(polys):
                self.assertEqual(len(poly), k + 1)
                self.assertEqual(poly[-1], (1, 1))

    def test_norms(self):
        self.same(norms((frac(7), fracs(3), ())), fracs(7))
        self.same(norms(OPEN), fracs(2, 6))
        self.same(norms(ENDED), fracs(2, 6, 0))
        self.same(norms((frac(1, 2), fracs(0, 0, 0), fracs((2, 3), (3, 5), 5))), fracs((1, 2), (1, 3), (1, 5), 1))
        for ladder in ladders(4):
            self.assertEqual(len(self.twice(norms, ladder)), len(ladder[2]) + 1)

    def test_row_of(self):
        self.same(row_of(OPEN, 3), fracs(2, 2, 8, 17))
        self.same(row_of(OPEN, 0), fracs(2))
        self.same(row_of(ENDED, 8)[:4], fracs(2, 2, 8, 17))
        self.same(row_of((frac(3), fracs(2), fracs(0)), 8), told([3 * 2 ** k for k in range(9)]))
        self.same(row_of((frac(1), fracs(0, 0, 0, 0), fracs(1, 1, 1, 1)), 8), fracs(1, 0, 1, 0, 2, 0, 5, 0, 14))
        self.same(row_of((frac(5), (), ()), 0), fracs(5))

    def test_rows_by_the_sums_of_rungs(self):
        for ladder in ladders(5):
            last = last_of(ladder)
            row = self.twice(row_of, ladder, last)
            self.same(row, model_row(ladder, last))
            for top in range(last):
                self.same(row_of(ladder, top), row[:top + 1])
            self.has_the_sums(ladder, worths(row))

    def has_the_sums(self, ladder, row):
        polys = [worths(poly) for poly in rung_polys(ladder)]
        found = norms(ladder)
        for k, poly in enumerate(polys):
            for j in range(min(k, len(row) - k)):
                self.assertEqual(by_row(row, poly, j), 0)
            if 2 * k < len(row):
                self.assertEqual(by_row(row, mul(poly, poly)), worth(found[k]))
        if not is_open(ladder):
            for j in range(len(row) - len(polys[-1]) + 1):
                self.assertEqual(by_row(row, polys[-1], j), 0)

    def test_top_of_open_ones(self):
        for ladder in ladders(6):
            most = last_of(ladder)
            for top in range(most + 1):
                self.assertEqual(len(row_of(ladder, top)), top + 1)
            for top in range(most + 1, 12):
                self.assertIs(self.refused(BadNumber, top, row_of, ladder, top), top)

    def test_many_figures(self):
        ladder = (frac(BIG), fracs(-BIG, (BIGGER, BIG), 1, BIG), fracs((1, BIG), BIG, (BIGGER, 3), BIG))
        row = row_of(ladder, 8)
        self.same(row, model_row(ladder, 8))
        self.same(ladder_of(row), ladder)
        self.same(row_of((frac(BIG), fracs(-BIG), fracs(0)), 8), told([BIG * (-BIG) ** k for k in range(9)]))

    def test_wrong(self):
        wrong = (BadLadder, wrong_ladders())
        for deed in (need_ladder, is_ended, rung_polys, norms):
            self.each_refused(deed, (OPEN,), [wrong])
        self.each_refused(row_of, (OPEN, 2), [wrong, (BadNumber, wrong_numbers(0, 3))])
        self.each_refused(row_of, (ENDED, 2), [wrong, (BadNumber, wrong_numbers(0, 8))])


if __name__ == "__main__":
    unittest.main()
