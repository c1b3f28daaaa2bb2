import random
import unittest
from fractions import Fraction

from rungshare.cuts import bordered, cut_table, table_poly, turned_table
from rungshare.errors import BadFraction, BadTable, TooMany
from rungshare.ladders import rung_polys
from rungshare.nears import near_fractions
from rungshare.tables import table_ladder
from samples import BIG, BIGGER, Case, add, frac, fracs, mul, poly_told, some_above, some_fraction, worth, worths
from samples import wrong_fractions, wrong_tables
from test_tables import PLAIN, model_square, some_tables


def model_determinant(rows):
    """That of a square of polynomials, along its first row."""
    if not rows:
        return [Fraction(1)]
    whole = []
    for k, part in enumerate(rows[0]):
        rest = model_determinant([row[:k] + row[k + 1:] for row in rows[1:]])
        whole = add(whole, mul(part if k % 2 == 0 else [-one for one in part], rest))
    return whole


def model_poly(square):
    many = len(square)
    rows = [[[-square[i][j]] + ([Fraction(1)] if i == j else []) for j in range(many)] for i in range(many)]
    return poly_told(model_determinant(rows))


class Cuts(Case):

    def test_known(self):
        self.same(table_poly(((), fracs(7), ())), fracs(-7, 1))
        self.same(table_poly(PLAIN), fracs(2, -5, 1))
        self.same(cut_table(PLAIN), ((), fracs(3), ()))
        self.same(cut_table((fracs(1, 2), fracs(3, 4, 5), fracs(6, 7))), (fracs(2), fracs(4, 5), fracs(7)))
        self.same(bordered(PLAIN, frac(-5), frac(0), frac(-7)), (fracs(-5, 1), fracs(0, 2, 3), fracs(-7, 4)))
        self.same(bordered(((), fracs(3), ()), frac(5), frac(6), frac(7)), (fracs(5), fracs(6, 3), fracs(7)))
        self.same(turned_table(((), fracs(3), ())), ((), fracs(3), ()))
        self.same(turned_table((fracs(1, 2), fracs(3, 4, 5), fracs(6, 7))), (fracs(7, 6), fracs(5, 4, 3), fracs(2, 1)))

    def test_polynomials(self):
        for table in some_tables(211):
            poly = self.twice(table_poly, table)
            self.same(poly, model_poly(model_square(table)))
            ladder = table_ladder(frac(3, 2), table)
            self.same(poly, rung_polys(ladder)[-1])
            turned = self.twice(turned_table, table)
            self.same(table_poly(turned), poly)
            top = near_fractions(ladder)[-1][0]
            if len(table[1]) > 1:
                cut = table_poly(cut_table(table))
                self.same(top, poly_told([part * Fraction(3, 2) for part in worths(cut)]))

    def test_turned(self):
        for table in some_tables(212):
            square, turned = model_square(table), model_square(turned_table(table))
            last = len(square) - 1
            for i in range(last + 1):
                for j in range(last + 1):
                    self.assertEqual(turned[i][j], square[last - i][last - j])
            self.same(turned_table(turned_table(table)), table)

    def test_cut(self):
        for table in some_tables(213):
            if len(table[1]) == 1:
                self.assertIs(self.refused(BadTable, table, cut_table, table), table)
                continue
            cut = self.twice(cut_table, table)
            self.assertEqual(model_square(cut), [row[1:] for row in model_square(table)[1:]])

    def test_bordered(self):
        r = random.Random(214)
        for table in some_tables(214):
            sign = r.choice([1, -1])
            low, high = [frac(sign * worth(some_above(r))) for _ in range(2)]
            first = some_fraction(r)
            if len(table[1]) == 5:
                self.refused(TooMany, 5, bordered, table, low, first, high)
                self.refused(BadFraction, frac(0), bordered, table, low, first, frac(0))
                continue
            new = self.twice(bordered, table, low, first, high)
            self.same(cut_table(new), table)
            square = model_square(new)
            self.assertEqual((square[0][0], square[0][1], square[1][0]), (worth(first), worth(high), worth(low)))
            self.same(table_poly(new), model_poly(square))

    def test_unlike_signs(self):
        for low, high in [(1, -1), (-1, 1), (0, 1), (1, 0), (0, 0), ((1, 2), (-1, 3)), (0, -1)]:
            bad = frac(*high) if isinstance(high, tuple) else frac(high)
            near = frac(*low) if isinstance(low, tuple) else frac(low)
            self.assertIs(self.refused(BadFraction, bad, bordered, PLAIN, near, frac(0), bad), bad)
        self.same(bordered(PLAIN, frac(-1), frac(0), frac(-1))[0], fracs(-1, 1))

    def test_many_figures(self):
        table = (fracs(BIG, -BIGGER, (-1, BIG), BIG), fracs(BIG, (1, BIG), -BIG, BIGGER, 0),
                 fracs(BIG, (-1, BIGGER), -BIG, BIGGER))
        self.same(table_poly(table), model_poly(model_square(table)))

    def test_wrong(self):
        tables, some = (BadTable, wrong_tables()), (BadFraction, wrong_fractions())
        self.each_refused(table_poly, (PLAIN,), [tables])
        self.each_refused(turned_table, (PLAIN,), [tables])
        self.each_refused(cut_table, (PLAIN,), [(BadTable, wrong_tables() + [((), fracs(1), ()), ((), fracs(0), ())])])
        high = (BadFraction, wrong_fractions() + list(fracs(0, -1, (-1, 2))))
        self.each_refused(bordered, (PLAIN, frac(1), frac(0), frac(2)), [tables, some, some, high])
        full = (fracs(*[1] * 4), fracs(*[0] * 5), fracs(*[1] * 4))
        for thing in wrong_fractions():
            self.assertIs(self.refused(BadFraction, thing, bordered, full, thing, frac(0), frac(1)), thing)
            self.assertIs(self.refused(BadFraction, thing, bordered, full, frac(1), thing, frac(1)), thing)
            self.assertIs(self.refused(BadFraction, thing, bordered, full, frac(1), frac(0), thing), thing)


if __name__ == "__main__":
    unittest.main()
