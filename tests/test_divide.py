import random
import unittest

from rungshare.divide import common_part, plain_part, quotient_of, rest_of, slope_of
from rungshare.errors import BadPoly
from rungshare.polys import poly_sum, product
from samples import BIG, BIGGER, Case, at, frac, fracs, from_roots, some_fraction, times_polys, told, worth, worths
from samples import wrong_polys

SEVENS = fracs(7, -7, (7, 2))


def some_polys(seed):
    r = random.Random(seed)
    found = [(), fracs(1), fracs((-3, 2)), fracs(0, 1), fracs(1, 0, 1), fracs(-2, 0, 1), fracs(0, 0, 0, 5)]
    found += [fracs(BIG, (1, BIG)), fracs((BIGGER, BIG), -BIG, BIG), tuple([some_fraction(r) for _ in range(11)])
              + fracs(3)]
    for many in (2, 3, 4, 6, 9, 12):
        found.append(tuple([some_fraction(r) for _ in range(many - 1)]) + fracs((-1, 3)))
    return found


class Divide(Case):

    def test_known(self):
        self.same(quotient_of(fracs(-1, 0, 1), fracs(1, 1)), fracs(-1, 1))
        self.same(rest_of(fracs(-1, 0, 1), fracs(1, 1)), ())
        self.same(quotient_of(fracs(1, 2, 3), fracs(1, 2)), fracs((1, 4), (3, 2)))
        self.same(rest_of(fracs(1, 2, 3), fracs(1, 2)), fracs((3, 4)))
        self.same(quotient_of(fracs(1, 2), fracs(1, 2, 3)), ())
        self.same(rest_of(fracs(1, 2), fracs(1, 2, 3)), fracs(1, 2))
        self.same(quotient_of((), fracs(5)), ())
        self.same(rest_of((), fracs(5)), ())
        self.same(quotient_of(fracs(1, 2), fracs(-2)), fracs((-1, 2), -1))
        self.same(rest_of(fracs(1, 2), fracs(-2)), ())
        self.same(quotient_of(fracs(0, 0, 0, 1), fracs(0, 0, 1)), fracs(0, 1))

    def test_put_together_again(self):
        for one in some_polys(41):
            for other in some_polys(41):
                if other == ():
                    continue
                quotient, rest = self.twice(quotient_of, one, other), self.twice(rest_of, one, other)
                self.assertLess(len(rest), len(other))
                self.same(poly_sum(product(quotient, other), rest), one)

    def test_common_part(self):
        self.same(common_part(from_roots(1, 2), from_roots(2, 3)), fracs(-2, 1))
        self.same(common_part(from_roots(1, 2), from_roots(3)), fracs(1))
        self.same(common_part(fracs(6), fracs(4)), fracs(1))
        self.same(common_part((), fracs(2, 4)), fracs((1, 2), 1))
        self.same(common_part(fracs(2, 4), ()), fracs((1, 2), 1))
        self.same(common_part(fracs(-3), ()), fracs(1))
        self.same(common_part(SEVENS, SEVENS), fracs(2, -2, 1))
        root = fracs(-2, 0, 1)
        self.same(common_part(times_polys(root, fracs(1, -5)), times_polys(fracs(3), root, root)), root)

    def test_common_parts_of_products(self):
        r = random.Random(42)
        for _ in range(60):
            alike = from_roots(*[r.randint(0, 3) for _ in range(r.randint(0, 4))])
            one = from_roots(*[r.randint(4, 7) for _ in range(r.randint(0, 4))])
            other = from_roots(*[r.randint(8, 11) for _ in range(r.randint(0, 4))])
            left = times_polys(alike, one, fracs((r.randint(-9, -1), r.randint(1, 9))))
            right = times_polys(alike, other, fracs((r.randint(1, 9), r.randint(1, 9))))
            self.same(self.twice(common_part, left, right), alike)
            self.same(common_part(right, left), alike)
            self.same(rest_of(left, alike), ())

    def test_slope(self):
        self.same(slope_of(()), ())
        self.same(slope_of(fracs(5)), ())
        self.same(slope_of(fracs(5, (1, 2))), fracs((1, 2)))
        self.same(slope_of(fracs(5, 0, 0, (2, 3))), fracs(0, 0, 2))
        self.same(self.twice(slope_of, fracs(*range(1, 13))), fracs(*[k * (k + 1) for k in range(1, 12)]))

    def test_plain_part(self):
        self.same(plain_part(fracs(-4)), fracs(1))
        self.same(plain_part(fracs(1, 2)), fracs((1, 2), 1))
        self.same(plain_part(from_roots(1, 1, 2)), from_roots(1, 2))
        self.same(plain_part(from_roots(*[(1, 3)] * 11)), from_roots((1, 3)))
        self.same(plain_part(fracs(0, 0, 0, -7)), fracs(0, 1))
        self.same(plain_part(times_polys(fracs(1, 0, 1), fracs(1, 0, 1), fracs(5))), fracs(1, 0, 1))
        self.same(plain_part(from_roots(*range(11))), from_roots(*range(11)))
        r = random.Random(43)
        for _ in range(40):
            roots = [(r.randint(-3, 3), r.randint(1, 2)) for _ in range(r.randint(1, 11))]
            unlike = sorted({worth(frac(*root)) for root in roots})
            poly = times_polys(from_roots(*roots), fracs((r.choice([-2, 3]), 5)))
            plain = self.twice(plain_part, poly)
            self.same(plain, from_roots(*told(unlike)))
            self.same(plain_part(plain), plain)
            for root in unlike:
                self.assertEqual(at(worths(plain), root), 0)
                self.assertNotEqual(at(worths(slope_of(plain)), root), 0)

    def test_many_figures(self):
        one = fracs((BIG, BIGGER), -BIGGER, (BIG - 1, BIG))
        two = product(one, one)
        self.same(quotient_of(two, one), one)
        self.same(rest_of(two, one), ())
        last = worth(one[-1])
        wanted = told([part / last for part in worths(one)])
        self.same(plain_part(two), wanted)
        self.same(common_part(two, one), wanted)

    def test_wrong(self):
        polys, divisors = (BadPoly, wrong_polys()), (BadPoly, wrong_polys() + [()])
        for deed in (quotient_of, rest_of):
            self.each_refused(deed, (SEVENS, SEVENS), [polys, divisors])
        self.each_refused(common_part, (SEVENS, SEVENS), [polys, polys])
        self.each_refused(common_part, ((), SEVENS), [polys, divisors])
        self.each_refused(slope_of, (SEVENS,), [polys])
        self.each_refused(plain_part, (SEVENS,), [divisors])


if __name__ == "__main__":
    unittest.main()
