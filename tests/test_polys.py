import random
import unittest

from rungshare.errors import BadFraction, BadFractions, BadPoly, TooMany
from rungshare.polys import need_poly, poly_by, poly_less, poly_sum, product, worth_at
from samples import BIG, BIGGER, Case, add, at, frac, fracs, mul, poly_told, some_fraction, worth, worths
from samples import wrong_fractions, wrong_polys, wrong_tuples

LONG = fracs(*range(1, 13))


def some_polys():
    r = random.Random(8)
    found = [(), fracs(1), fracs(-1), fracs(0, 1), fracs(0, 0, 0, (1, 2)), LONG, fracs(BIG, -BIG, (1, BIG))]
    found += [fracs((-BIG, BIGGER), (BIGGER, BIG), 0, -BIG)]
    for many in (1, 2, 3, 5, 6, 11):
        found.append(poly_told(worths([some_fraction(r) for _ in range(many - 1)]) + [1]))
    return found


class Polys(Case):

    def test_need_poly(self):
        for good in some_polys():
            self.assertIs(need_poly(good), good)

    def test_poly_by(self):
        self.same(poly_by(()), ())
        self.same(poly_by(fracs(0)), ())
        self.same(poly_by(fracs(*[0] * 12)), ())
        self.same(poly_by(fracs(0, 1, 0, 0)), fracs(0, 1))
        self.same(poly_by(fracs(0, 1, 0, 2)), fracs(0, 1, 0, 2))
        self.same(self.twice(poly_by, LONG), LONG)

    def test_sums(self):
        self.same(poly_sum(fracs(1, 2, 3), fracs(1, -2, -3)), fracs(2))
        self.same(poly_sum(fracs(1), fracs(-1)), ())
        self.same(poly_less(fracs(1, 2, 3), fracs(1, 2, 3)), ())
        self.same(poly_less((), fracs(1, 2)), fracs(-1, -2))
        for one in some_polys():
            for other in some_polys():
                self.same(self.twice(poly_sum, one, other), poly_told(add(worths(one), worths(other))))
                minus = [-part for part in worths(other)]
                self.same(self.twice(poly_less, one, other), poly_told(add(worths(one), minus)))

    def test_product(self):
        self.same(product(fracs(-1, 1), fracs(1, 1)), fracs(-1, 0, 1))
        self.same(product((), LONG), ())
        self.same(product(LONG, ()), ())
        self.same(product(LONG, fracs(2)), fracs(*range(2, 25, 2)))
        for one in some_polys():
            for other in some_polys():
                wanted = poly_told(mul(worths(one), worths(other)))
                if len(wanted) > 12:
                    self.refused(TooMany, 12, product, one, other)
                else:
                    self.same(self.twice(product, one, other), wanted)

    def test_too_many(self):
        six, seven = fracs(*range(1, 7)), fracs(*range(1, 8))
        self.assertEqual(len(product(six, seven)), 12)
        self.refused(TooMany, 12, product, seven, seven)
        self.refused(TooMany, 12, product, LONG, fracs(0, 1))
        self.refused(TooMany, 12, product, fracs(0, 1), LONG)

    def test_worth_at(self):
        self.same(worth_at((), (1, 2)), (0, 1))
        self.same(worth_at(fracs(5), (0, 1)), (5, 1))
        self.same(worth_at(fracs(-2, 0, 1), (3, 2)), (1, 4))
        self.same(worth_at(fracs(1, 1, 1), (-1, 1)), (1, 1))
        for poly in some_polys():
            for mark in fracs(0, 1, -1, (-3, 7), (BIG, BIGGER), -BIG):
                self.same(self.twice(worth_at, poly, mark), frac(at(worths(poly), worth(mark))))

    def test_told_ones_passed_on(self):
        one = product(fracs(BIG, (1, BIGGER)), fracs(-BIGGER, (BIGGER, BIG)))
        two = product(one, one)
        self.same(poly_less(poly_sum(two, one), one), two)
        self.same(worth_at(two, (BIG, 8)), frac(at(worths(one), worth((BIG, 8))) ** 2))
        self.assertIs(need_poly(two), two)

    def test_wrong(self):
        polys, fractions = (BadPoly, wrong_polys()), (BadFraction, wrong_fractions())
        self.each_refused(need_poly, (LONG,), [polys])
        self.each_refused(poly_by, (LONG,), [(BadFractions, wrong_tuples(12))])
        for deed in (poly_sum, poly_less):
            self.each_refused(deed, (LONG, LONG), [polys, polys])
        self.each_refused(product, (fracs(1, 2), LONG[:7]), [polys, polys])
        self.each_refused(worth_at, (LONG, frac(1, 2)), [polys, fractions])


if __name__ == "__main__":
    unittest.main()
