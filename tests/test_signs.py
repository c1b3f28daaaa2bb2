import random
import unittest
from fractions import Fraction

from rungshare.divide import plain_part, rest_of, slope_of
from rungshare.errors import BadBounds, BadFraction, BadFractions, BadPoly
from rungshare.signs import changes_of, fence_of, is_fence, is_real, rational_roots, root_count, roots_in, sign_row
from samples import ANY, BIG, BIGGER, Case, at, frac, fracs, from_roots, poly_told, some_fraction, times_polys, told
from samples import worth, worths, wrong_fractions, wrong_polys, wrong_tuples

LINE = fracs(-1, 2)
IMAGES = fracs(1, 0, 1)
TWO = fracs(-2, 0, 1)
THREE = fracs(-3, 0, 1)


def wrong_sloped():
    return wrong_polys() + [(), fracs(1), fracs((-1, 2))]


def sorted_told(some):
    return told(sorted({worth(frac(*one)) for one in some}))


class Signs(Case):

    def cases(self, seed, many=40):
        """Polynomials with their roots that are fractions, and whether they have those of x x - 2 and x x - 3."""
        r = random.Random(seed)
        for _ in range(many):
            roots = [(r.randint(-6, 6), r.randint(1, 3)) for _ in range(r.randint(0, 5))]
            others = [poly for poly in (IMAGES, TWO, THREE) if r.random() < 0.5]
            poly = times_polys(from_roots(*roots), fracs((r.choice([-3, 1, 2]), 5)), *others)
            if len(poly) > 1:
                yield poly, sorted_told(roots), TWO in others, THREE in others

    def test_sign_row(self):
        self.same(sign_row(LINE), (fracs((-1, 2), 1), fracs(1)))
        self.same(sign_row(fracs(-4, 0, 2)), (fracs(-2, 0, 1), fracs(0, 2), fracs(2)))
        self.same(sign_row(fracs(1, 0, 1)), (fracs(1, 0, 1), fracs(0, 2), fracs(-1)))
        self.same(sign_row(from_roots(5, 5, 5)), (fracs(-5, 1), fracs(1)))
        wanted = (fracs(0, -1, 0, 1), fracs(-1, 0, 3), fracs(0, (2, 3)), fracs(1))
        self.same(sign_row(times_polys(fracs(-7), from_roots(-1, 0, 1, 1))), wanted)

    def test_sign_row_by_its_words(self):
        r = random.Random(51)
        polys = [tuple([some_fraction(r) for _ in range(many)]) + fracs((2, 3)) for many in range(1, 12)]
        polys += [poly for poly, _, _, _ in self.cases(52)] + [fracs((BIGGER, BIG), -BIG, 0, BIG)]
        for poly in polys:
            row = self.twice(sign_row, poly)
            self.same(row[0], plain_part(poly))
            self.same(row[1], slope_of(row[0]))
            for one, two, three in zip(row, row[1:], row[2:]):
                self.same(three, tuple([(-top, bottom) for top, bottom in rest_of(one, two)]))
            self.same(rest_of(row[-2], row[-1]), ())

    def test_changes(self):
        self.assertEqual(changes_of(()), 0)
        self.assertEqual(changes_of(fracs(0, 0)), 0)
        self.assertEqual(changes_of(fracs(-1)), 0)
        self.assertEqual(changes_of(fracs(1, -1)), 1)
        self.assertEqual(changes_of(fracs(1, 0, -1)), 1)
        self.assertEqual(changes_of(fracs(1, 0, 2)), 0)
        self.assertEqual(changes_of(fracs(0, 1, 0, 0, -2, (3, 4), 0, 5, (-1, BIG), 0)), 3)
        self.same(self.twice(changes_of, fracs(*[1, -1] * 500)), 999)
        self.assertEqual(changes_of(fracs(*[0] * 20)), 0)

    def test_roots_in(self):
        poly = times_polys(from_roots(1, 1, 3), TWO)
        for low, high, wanted in [(0, 4, 3), (1, 3, 2), (1, 1, 0), (0, 1, 1), (3, 9, 0), (-2, -1, 1), (-2, 3, 4)]:
            self.same(self.twice(roots_in, poly, frac(low), frac(high)), wanted)
        self.assertEqual(roots_in(poly, frac(BIGGER, BIG), frac(3)), 3)
        self.assertEqual(roots_in(poly, frac(1), frac(3 * BIG - 1, BIG)), 1)
        self.assertEqual(roots_in(IMAGES, frac(-BIG), frac(BIG)), 0)

    def test_roots_in_products(self):
        for poly, roots, two, three in self.cases(53):
            surds = [Fraction(sign * top, 10 ** 6) for sign in (1, -1)
                     for top, there in ((1414213, two), (1732050, three)) if there]
            for low, high in [(-7, 7), (0, 2), (-1, 1), (-3, 0), ((1, 2), (5, 3)), (2, 2), (-6, (-1, 3))]:
                low, high = fracs(low, high)
                many = sum([worth(low) < root <= worth(high) for root in worths(roots) + surds])
                self.assertEqual(roots_in(poly, low, high), many)
            self.assertEqual(root_count(poly), len(roots) + len(surds))
            self.assertIs(is_real(poly), root_count(poly) == len(plain_part(poly)) - 1)
            for root in roots:
                near = [frac(worth(root) + part) for part in (Fraction(-1, 10 ** 40), 0, Fraction(1, 10 ** 40))]
                self.assertEqual([roots_in(poly, a, b) for a, b in [near[:2], near[1:], near[::2]]], [1, 0, 1])

    def test_root_count(self):
        self.assertEqual(root_count(LINE), 1)
        self.assertEqual(root_count(IMAGES), 0)
        self.assertEqual(root_count(from_roots(*[(1, 3)] * 11)), 1)
        self.assertEqual(root_count(from_roots(*range(11))), 11)
        self.assertEqual(root_count(times_polys(*[IMAGES] * 5)), 0)
        self.assertEqual(root_count(times_polys(fracs(-1), TWO, THREE)), 4)
        self.assertEqual(root_count(fracs(*[0] * 11 + [-1])), 1)
        self.assertEqual(root_count(fracs(*[1] + [0] * 10 + [1])), 1)
        self.assertEqual(root_count(fracs(*[1] + [0] * 9 + [1])), 0)
        self.assertEqual(root_count(fracs(*[-1] + [0] * 9 + [1])), 2)

    def test_is_real(self):
        self.assertIs(is_real(LINE), True)
        self.assertIs(is_real(IMAGES), False)
        self.assertIs(is_real(from_roots(2, 2, 2)), True)
        self.assertIs(is_real(times_polys(TWO, TWO, THREE)), True)
        self.assertIs(is_real(times_polys(TWO, IMAGES)), False)
        self.assertIs(is_real(from_roots(*range(-5, 6))), True)
        self.assertIs(is_real(fracs(-2, 0, 0, 1)), False)

    def test_fences(self):
        polys = [poly for poly, _, _, _ in self.cases(54)]
        polys += [LINE, IMAGES, fracs(0, 1), fracs(0, 0, 0, 1), from_roots(*range(-5, 6)), from_roots(BIG, BIG - 1)]
        polys += [from_roots((1, BIG), (1, BIG - 1)), from_roots(-BIG, (1, BIG)), fracs(*range(1, 13))]
        polys += [from_roots((1, 10 ** 59), (2, 10 ** 59), (3, 10 ** 59)), fracs((-BIG, 8), 0, 0, 1)]
        for poly in polys:
            fence = self.twice(fence_of, poly)
            self.assertEqual(len(fence), root_count(poly))
            self.assertIs(self.twice(is_fence, poly, fence), True)
            for low, high in fence:
                self.assertLess(worth(low), worth(high))
                self.assertEqual(roots_in(poly, low, high), 1)
            for (_, high), (low, _) in zip(fence, fence[1:]):
                self.assertLessEqual(worth(high), worth(low))
            if fence:
                for other in [fence[1:], fence[:-1], fence + fence[-1:], fence[:1] + fence, list(fence), fence[0]]:
                    self.assertIs(is_fence(poly, other), False)
                self.assertIs(is_fence(poly, (tuple(fence[0][::-1]),) + fence[1:]), False)
            if len(fence) > 1:
                self.assertIs(is_fence(poly, fence[::-1]), False)
            self.assertIs(is_fence(poly, ()), not fence)

    def test_is_fence(self):
        poly = from_roots(1, 2, 2, 4)
        good = [fracs(0, 1), fracs(1, 2), fracs(2, 4)]
        self.assertIs(is_fence(poly, tuple(good)), True)
        self.assertIs(is_fence(poly, (fracs((1, 2), (3, 2)), fracs((3, 2), 3), fracs(3, BIG))), True)
        self.assertIs(is_fence(poly, (fracs(0, 1), fracs((3, 2), 3), fracs((7, 2), 4))), True)
        # A root that is a LOW, two roots in one, none in one, and pairs that lie over one another.
        self.assertIs(is_fence(poly, (fracs(1, (3, 2)), fracs((3, 2), 3), fracs(3, 5))), False)
        self.assertIs(is_fence(poly, (fracs(0, 2), fracs(2, 4))), False)
        self.assertIs(is_fence(poly, (fracs(0, 2), fracs(2, 3), fracs(3, 5))), False)
        self.assertIs(is_fence(poly, (fracs(0, (3, 2)), fracs(1, 2), fracs(2, 4))), False)
        self.assertIs(is_fence(poly, (fracs(0, 1), fracs(1, 3), fracs(2, 5))), False)
        self.assertIs(is_fence(poly, tuple(good[::-1])), False)
        self.assertIs(is_fence(poly, (good[0], good[2], good[1])), False)
        self.assertIs(is_fence(poly, tuple(good) + (fracs(5, 6),)), False)
        self.assertIs(is_fence(poly, tuple(good) + (fracs(6, 5),)), False)
        self.assertIs(is_fence(poly, (fracs(1, 1), fracs(1, 2), fracs(2, 4))), False)
        self.assertIs(is_fence(from_roots(3), (fracs(3, 3),)), False)
        self.assertIs(is_fence(IMAGES, ()), True)
        self.assertIs(is_fence(IMAGES, (fracs(-1, 1),)), False)
        self.assertIs(is_fence(TWO, (fracs(-2, 0), fracs(0, 2))), True)
        self.assertIs(is_fence(TWO, (fracs(0, 2), fracs(-2, 0))), False)

    def test_is_fence_of_any_value(self):
        for value in ANY:
            self.assertIs(is_fence(LINE, value), False)
            self.assertIs(is_fence(IMAGES, value), value == () and isinstance(value, tuple))
            self.assertIs(is_fence(LINE, (value,)), False)
            self.assertIs(is_fence(LINE, ((value, frac(1)),)), value in [(-1, 1)])
            self.assertIs(is_fence(LINE, ((frac(0), value),)), False)
        for bad in wrong_fractions():
            self.assertIs(is_fence(LINE, ((bad, frac(1)),)), False)
            self.assertIs(is_fence(LINE, ((frac(0), bad),)), False)
        self.assertIs(is_fence(LINE, (fracs(0, 1),)), True)
        for value in [[fracs(0, 1)], (list(fracs(0, 1)),), (fracs(0, 1, 2),), (fracs(1),), {fracs(0, 1): 1}]:
            self.assertIs(is_fence(LINE, value), False)

    def test_rational_roots(self):
        self.same(rational_roots(LINE), fracs((1, 2)))
        self.same(rational_roots(IMAGES), ())
        self.same(rational_roots(TWO), ())
        self.same(rational_roots(fracs(0, 0, 7)), fracs(0))
        self.same(rational_roots(fracs(*[-1] + [0] * 10 + [2048])), fracs((1, 2)))
        self.same(rational_roots(fracs(*[0] * 11 + [-1])), fracs(0))
        self.same(rational_roots(times_polys(TWO, THREE, fracs(-6, 0, 1))), ())
        for poly, roots, _, _ in self.cases(55, 80):
            self.same(self.twice(rational_roots, poly), roots)

    def test_rational_roots_of_many_figures(self):
        roots = [(BIG, BIGGER), (-BIGGER, BIG), (BIG - 1, BIGGER), (0, 1), (1, BIG), (-1, 10 ** 59), (BIG, 1)]
        poly = times_polys(from_roots(*roots), TWO, fracs(1, 1, 1))
        self.assertEqual(len(poly), 12)
        self.same(rational_roots(poly), sorted_told(roots))
        self.assertEqual(root_count(poly), 9)
        self.same(rational_roots(from_roots(*range(BIG, BIG + 11))), fracs(*range(BIG, BIG + 11)))
        self.same(rational_roots(fracs(-BIG * BIG, 0, 1)), fracs(-BIG, BIG))
        self.same(rational_roots(fracs(1 - BIG * BIG, 0, 1)), ())
        r = random.Random(56)
        for _ in range(5):
            poly = tuple([frac(r.randint(-BIG, BIG), r.randint(1, BIG)) for _ in range(12)])
            self.assertIs(is_fence(poly, fence_of(poly)), True)
            for root in rational_roots(poly):
                self.assertEqual(at(worths(poly), worth(root)), 0)

    def test_bounds(self):
        low, high = frac(1, 2), frac(1, 3)
        self.refused(BadBounds, (low, high), roots_in, LINE, low, high)
        self.refused(BadBounds, ((BIG, 1), (BIG - 1, 1)), roots_in, LINE, (BIG, 1), (BIG - 1, 1))
        self.assertEqual(roots_in(LINE, low, low), 0)
        self.refused(BadFraction, None, roots_in, LINE, frac(5), None)
        self.refused(BadPoly, (), roots_in, (), low, high)

    def test_wrong(self):
        polys, fractions = (BadPoly, wrong_sloped()), (BadFraction, wrong_fractions())
        for deed in (sign_row, root_count, is_real, fence_of, rational_roots):
            self.each_refused(deed, (TWO,), [polys])
        self.each_refused(roots_in, (TWO, frac(-1), frac(1)), [polys, fractions, fractions])
        for thing in wrong_sloped():
            self.assertIs(self.refused(BadPoly, thing, is_fence, thing, ()), thing)
        long = [thing for thing in wrong_tuples(12) if not isinstance(thing, tuple) or len(thing) < 12]
        self.each_refused(changes_of, (fracs(1, 2),), [(BadFractions, long)])
        self.assertEqual(changes_of(poly_told(worths(fracs(*[-1] * 40)))), 0)


if __name__ == "__main__":
    unittest.main()
