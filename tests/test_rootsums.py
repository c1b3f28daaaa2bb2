import random
import unittest
from fractions import Fraction

from rungshare.errors import BadNumber, BadPoly
from rungshare.fewest import root_rule
from rungshare.polys import product
from rungshare.rootsums import power_sums, root_sum
from rungshare.rows import sum_by
from samples import BIG, BIGGER, Case, at, frac, fracs, from_roots, poly_told, some_fraction, some_numbers
from samples import times_polys, told, worth, worths, wrong_numbers, wrong_polys
from test_fewest import model_root_sum, rows_with_numbers


def model_sum(poly, other):
    """The root sum of two lists of Fractions, by the trace."""
    return model_root_sum([part / poly[-1] for part in poly], other)


def some_unlike(r):
    """Polynomials of the degrees 1 to 5 whose roots are unlike, fractions or not, real or not."""
    found = [fracs(1, 1), fracs(0, -3), fracs(1, 0, 1), fracs(-2, 0, 1), fracs(1, 1, 1), fracs(2, 0, 3, 0, 1)]
    found += [fracs(0, 1, 0, 1), fracs(-2, 0, 0, 1), fracs(1, 0, 0, 0, 1), fracs(-1, -1, 0, 0, 0, 1),
              fracs(0, 1, 0, 0, 0, 7)]
    for many in range(1, 6):
        for _ in range(4):
            poly = from_roots(*[worth(number) for number in some_numbers(r, many)])
            found.append(times_polys(poly, (some_fraction(r, 3),)) if r.randint(0, 1) else poly)
    return [poly for poly in found if len(poly) > 1]


ALIKE = [fracs(0, 0, 1), fracs(1, 2, 1), fracs(0, 0, 0, 1), fracs(0, 0, 0, 0, 0, 5), fracs(1, 0, 2, 0, 1),
         fracs(0, 1, 0, 2, 0, 1), from_roots(1, 2, 1), from_roots((1, 2), 3, 4, 5, (1, 2)), fracs(4, 0, -4, 0, 1)]


class RootSums(Case):

    def test_known(self):
        self.same(root_sum(fracs(-2, 0, 1), ()), frac(0))
        self.same(root_sum(fracs(-2, 0, 1), fracs(1)), frac(2))
        self.same(root_sum(fracs(-2, 0, 1), fracs(0, 1)), frac(0))
        self.same(root_sum(fracs(-2, 0, 1), fracs(0, 0, 1)), frac(4))
        self.same(root_sum(fracs(1, 0, 1), fracs(0, 0, 1)), frac(-2))
        self.same(root_sum(fracs(1, 0, 1), fracs(5, 1, 0, 7)), frac(10))
        self.same(root_sum(fracs(-1, 2), fracs(0, 0, 4)), frac(1))
        self.same(power_sums(fracs(-6, 5, -1), 3), fracs(2, 5, 13, 35))
        self.same(power_sums(fracs(1, 0, 1), 0), fracs(2))
        self.same(power_sums(fracs(1, 0, 1), 4), fracs(2, 0, -2, 0, 2))
        self.same(power_sums(fracs(0, 3), 12), fracs(*[1] + [0] * 12))

    def test_roots_that_are_fractions(self):
        r = random.Random(351)
        for many in range(1, 6):
            for _ in range(4):
                roots = [worth(number) for number in some_numbers(r, many)]
                poly = times_polys(from_roots(*roots), fracs((-3, 7)))
                other = poly_told([worth(some_fraction(r)) for _ in range(r.randint(0, 12))])
                self.same(self.twice(root_sum, poly, other), frac(sum([at(worths(other), root) for root in roots])))
                self.same(power_sums(poly, 12), told([sum([root ** k for root in roots]) for k in range(13)]))

    def test_any_roots(self):
        r = random.Random(352)
        for poly in some_unlike(r):
            for many in (0, 1, 2, 5, 6, 12):
                other = poly_told([worth(some_fraction(r)) for _ in range(many)])
                self.same(self.twice(root_sum, poly, other), frac(model_sum(worths(poly), worths(other))))
            sums = self.twice(power_sums, poly, 12)
            for top in range(13):
                self.same(power_sums(poly, top), sums[:top + 1])
                if top < 12:
                    self.same(root_sum(poly, fracs(*[0] * top + [1])), sums[top])

    def test_root_rules(self):
        r = random.Random(353)
        for row, number in rows_with_numbers(354):
            poly, parts = root_rule(row, number)
            for many in range(2 * number + 1):
                other = poly_told([worth(some_fraction(r)) for _ in range(many)])
                self.same(root_sum(poly, product(other, parts)), sum_by(row, other))

    def test_degrees(self):
        for poly in [(), fracs(3), fracs(1, 0, 0, 0, 0, 0, 1), from_roots(1, 2, 3, 4, 5, 6), fracs(*[1] * 12)]:
            self.assertIs(self.refused(BadPoly, poly, root_sum, poly, fracs(1)), poly)
            self.assertIs(self.refused(BadPoly, poly, power_sums, poly, 3), poly)
        self.same(power_sums(from_roots(1, 2, 3, 4, 5), 2), fracs(5, 15, 55))
        self.same(root_sum(fracs(-32, 0, 0, 0, 0, 1), fracs(*[0] * 10 + [1])), frac(5 * 1024))

    def test_alike(self):
        for poly in ALIKE:
            self.assertIs(self.refused(BadPoly, poly, root_sum, poly, fracs(1)), poly)
            self.assertIs(self.refused(BadPoly, poly, power_sums, poly, 3), poly)
            self.refused(BadPoly, poly, root_sum, poly, None)
            self.refused(BadPoly, poly, power_sums, poly, True)

    def test_many_figures(self):
        roots = [Fraction(BIG), Fraction(1, BIG), Fraction(-BIGGER), Fraction(BIGGER, BIG), Fraction(0)]
        poly = from_roots(*roots)
        self.same(power_sums(poly, 12), told([sum([root ** k for root in roots]) for k in range(13)]))
        poly = fracs(BIG, (1, BIG), -BIGGER, (BIGGER, BIG), BIG, (7, BIG))
        self.same(root_sum(poly, poly), frac(0))
        self.same(root_sum(poly, fracs((BIG, 7))), frac(5 * BIG, 7))

    def test_wrong(self):
        good = fracs(-2, 0, 1)
        polys = (BadPoly, wrong_polys() + ALIKE)
        self.each_refused(root_sum, (good, good), [polys, (BadPoly, wrong_polys())])
        self.each_refused(power_sums, (good, 3), [polys, (BadNumber, wrong_numbers(0, 12))])


if __name__ == "__main__":
    unittest.main()
