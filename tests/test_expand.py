import random
import unittest

from rungshare.errors import BadFraction, BadFractions, BadLadder, BadNumber, BadPoly
from rungshare.expand import from_parts, parts_by, product_parts, roots_above
from rungshare.ladders import norms, row_of, rung_polys
from rungshare.rows import sum_by
from rungshare.signs import rational_roots, roots_in
from samples import BIG, BIGGER, Case, by_row, frac, fracs, ladders, last_of, model_rungs, mul, poly_told
from samples import some_fraction, worth, worths, wrong_fractions, wrong_ladders, wrong_numbers, wrong_polys
from samples import wrong_tuples

LADDER = (frac(2), fracs(1, (1, 2)), fracs(3))


class Expand(Case):

    def some_polys(self, r, most):
        for many in range(most + 1):
            yield poly_told(worths([some_fraction(r) for _ in range(many)]))
        yield fracs(*[0] * (most - 1) + [(BIG, BIGGER)])

    def test_known(self):
        self.same(parts_by(LADDER, ()), ())
        self.same(parts_by(LADDER, fracs(7)), fracs(7))
        self.same(parts_by(LADDER, fracs(0, 1)), fracs(1, 1))
        self.same(parts_by(LADDER, fracs(0, 0, 1)), fracs(4, (3, 2), 1))
        self.same(from_parts(LADDER, fracs(4, (3, 2), 1)), fracs(0, 0, 1))
        self.same(from_parts(LADDER, ()), ())
        self.same(from_parts(LADDER, fracs(0, 0, 0)), ())
        self.same(from_parts(LADDER, fracs(5, 0, 0)), fracs(5))
        self.same(from_parts((frac(3), (), ()), fracs(5)), fracs(5))

    def test_parts_and_back(self):
        r = random.Random(61)
        for ladder in ladders(62, 4):
            most = len(rung_polys(ladder))
            row = row_of(ladder, last_of(ladder))
            for poly in self.some_polys(r, most):
                parts = self.twice(parts_by, ladder, poly)
                self.assertEqual(len(parts), len(poly))
                self.same(self.twice(from_parts, ladder, parts), poly)
                self.same(from_parts(ladder, parts + fracs(*[0] * (most - len(parts)))), poly)
                whole = [sum([worth(part) * rung[k] for part, rung in zip(parts, model_rungs(ladder)) if k < len(rung)])
                         for k in range(len(poly))]
                self.same(poly_told(whole), poly)
                if 0 < len(poly) <= len(row):
                    self.same(sum_by(row, poly), frac(worth(ladder[0]) * worth(parts[0])))

    def test_degrees(self):
        for ladder in ladders(63):
            many = len(rung_polys(ladder))
            for more in range(many + 1, 13):
                poly = fracs(*[1] * more)
                self.assertIs(self.refused(BadPoly, poly, parts_by, ladder, poly), poly)
                self.assertIs(self.refused(BadFractions, poly, from_parts, ladder, poly), poly)
            noughts = fracs(*[0] * (many + 1))
            self.refused(BadFractions, noughts, from_parts, ladder, noughts)

    def test_roots_above(self):
        ladder = (frac(1), fracs(0, 0, 0, 0), fracs(1, 1, 1, 1))
        # The rung polynomials are 1, x, x x - 1, x x x - 2 x, x^4 - 3 x x + 1.
        for number, mark, wanted in [(0, 0, 0), (1, 0, 0), (1, -1, 1), (1, 1, 0), (2, -1, 1), (2, 1, 0), (2, 0, 1),
                                     (2, -2, 2), (3, 0, 1), (3, 1, 1), (3, -1, 2), (3, -2, 3), (4, 0, 2), (4, 1, 1),
                                     (4, -1, 3), (4, 2, 0), (4, -2, 4)]:
            self.same(self.twice(roots_above, ladder, number, frac(mark)), wanted)

    def test_roots_above_by_signs(self):
        marks = fracs(0, -1, 1, (7, 3), (-9, 2), 30, -30, (BIG, BIGGER))
        for ladder in ladders(64, 3):
            polys = rung_polys(ladder)
            for number in range(1, len(polys)):
                far = frac(10 ** 4)
                at_roots = [root for poly in polys[1:] for root in rational_roots(poly)]
                for mark in list(marks) + at_roots:
                    self.assertEqual(roots_above(ladder, number, mark), roots_in(polys[number], mark, far))
                self.assertEqual(roots_above(ladder, number, frac(-BIG)), number)

    def test_product_parts(self):
        ladder = (frac(1), fracs(0, 0, 0, 0), fracs(1, 1, 1, 1))
        self.same(product_parts(ladder, 1, 1), fracs(1, 0, 1))
        self.same(product_parts(ladder, 2, 2), fracs(1, 0, 1, 0, 1))
        self.same(product_parts(ladder, 0, 3), fracs(0, 0, 0, 1))
        self.same(product_parts(ladder, 4, 0), fracs(0, 0, 0, 0, 1))
        self.same(product_parts(ladder, 0, 0), fracs(1))

    def test_products(self):
        for ladder in ladders(65, 3):
            polys = [worths(poly) for poly in rung_polys(ladder)]
            last = len(polys) - 1
            for one in range(last + 1):
                for other in range(last + 1):
                    if one + other > last:
                        self.refused(BadNumber, other, product_parts, ladder, one, other)
                        continue
                    parts = self.twice(product_parts, ladder, one, other)
                    self.assertEqual(len(parts), one + other + 1)
                    self.assertTrue(all([part == (0, 1) for part in parts[:abs(one - other)]]))
                    self.same(from_parts(ladder, parts), poly_told(mul(polys[one], polys[other])))
                    self.has_sums(ladder, one, other, parts)

    def has_sums(self, ladder, one, other, parts):
        """Each part times its norm is the sum of three polynomials' product, whichever of the three it is of."""
        polys = [worths(poly) for poly in rung_polys(ladder)]
        row, found = worths(row_of(ladder, last_of(ladder))), worths(norms(ladder))
        for k, part in enumerate(parts):
            whole = mul(mul(polys[one], polys[other]), polys[k])
            if k < len(found) and len(whole) <= len(row):
                self.assertEqual(worth(part) * found[k], by_row(row, whole))
                if one + k < len(polys) and other < len(found):
                    turned = worths(product_parts(ladder, one, k)) + [0] * len(polys)
                    self.assertEqual(turned[other] * found[other], by_row(row, whole))

    def test_many_figures(self):
        ladder = (frac(1, BIG), fracs(-BIG, (BIGGER, BIG), BIG), fracs((1, BIG), BIG))
        poly = fracs(BIG, (1, BIGGER), -BIG, (1, BIG))
        parts = parts_by(ladder, poly)
        self.same(from_parts(ladder, parts), poly)
        self.same(parts_by(ladder, from_parts(ladder, parts)), parts)
        self.assertEqual(roots_above(ladder, 3, frac(-BIG * BIG)), 3)

    def test_wrong(self):
        ladder, fractions = (BadLadder, wrong_ladders()), (BadFraction, wrong_fractions())
        numbers = (BadNumber, wrong_numbers(0, 2))
        self.each_refused(parts_by, (LADDER, fracs(1, 2)), [ladder, (BadPoly, wrong_polys() + [fracs(1, 1, 1, 1)])])
        self.each_refused(from_parts, (LADDER, fracs(1, 2)), [ladder, (BadFractions, wrong_tuples(3))])
        self.each_refused(roots_above, (LADDER, 2, frac(1)), [ladder, numbers, fractions])
        self.each_refused(product_parts, (LADDER, 1, 1), [ladder, numbers, numbers])
        # The number that is none comes first, also if the sum would be one.
        self.refused(BadNumber, 3, product_parts, LADDER, 3, -1)
        self.refused(BadNumber, -1, product_parts, LADDER, -1, 3)
        self.refused(BadNumber, 2, product_parts, LADDER, 1, 2)
        self.refused(BadNumber, 1, product_parts, LADDER, 2, 1)


if __name__ == "__main__":
    unittest.main()
