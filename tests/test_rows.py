import random
import unittest

from rungshare.errors import BadFraction, BadNumber, BadPoly, BadRow, BadShare
from rungshare.rows import mixed, moments, need_row, need_share, sum_by
from rungshare.rowshares import is_of_share
from samples import BIG, BIGGER, Case, by_row, frac, fracs, model_moments, some_fraction, some_share, told, worth
from samples import worths, wrong_from_nought, wrong_numbers, wrong_polys, wrong_rows, wrong_shares

SHARE = ((frac(-1), frac(2)), (frac(1, 2), frac(1, 3)))


class Rows(Case):

    def test_need_row(self):
        for good in [fracs(1), fracs((1, BIG), -BIG, 0), fracs(*range(1, 10)), fracs(1, -1, -1), fracs(2, 0, 0)]:
            self.assertIs(need_row(good), good)

    def test_need_share(self):
        six = tuple([(frac(k, 7), frac(1, k + 4)) for k in range(-3, 3)])
        ones = (((0, 1), (1, 1)),)
        for good in [SHARE, six, ones, ((frac(1, 3), frac(1)), (frac(1, 2), frac(1)))]:
            self.assertIs(need_share(good), good)
        big = ((frac(-BIG), frac(1, BIG)), (frac(BIGGER, BIG), frac(BIG)))
        self.assertIs(need_share(big), big)

    def test_moments(self):
        self.same(moments(SHARE, 0), fracs((7, 3)))
        self.same(moments(SHARE, 3), fracs((7, 3), (-11, 6), (25, 12), (-47, 24)))
        self.same(moments((((0, 1), (5, 1)),), 8), fracs(5, 0, 0, 0, 0, 0, 0, 0, 0))
        r = random.Random(4)
        for many in range(1, 7):
            share = some_share(r, many)
            for top in (0, 1, 4, 8):
                self.same(self.twice(moments, share, top), model_moments(share, top))
        big = ((frac(-BIG), frac(1, BIG)), (frac(BIGGER, BIG), frac(BIG)))
        self.same(moments(big, 8), model_moments(big, 8))

    def test_unlike_shares(self):
        # Of two unlike shares with at most K pairs some moment less than twice K is unlike.
        r = random.Random(14)
        shares = [some_share(r, many, -2, 2) for many in (1, 2, 3, 4) for _ in range(6)]
        for one in shares:
            for other in shares:
                many = max(len(one), len(other))
                alike = moments(one, 2 * many - 1) == moments(other, 2 * many - 1)
                self.assertEqual(alike, one == other)

    def test_sum_by(self):
        self.same(sum_by(fracs(2, 3, 5), fracs(1, 0, -1)), frac(-3))
        self.same(sum_by(fracs(2, 3, 5), ()), frac(0))
        self.same(sum_by(fracs(2), fracs((1, 2))), frac(1))
        r = random.Random(6)
        for many in range(1, 10):
            row = fracs(BIG) + tuple([some_fraction(r) for _ in range(many - 1)])
            for short in range(many):
                poly = tuple([some_fraction(r) for _ in range(short)]) + fracs((-1, BIGGER))
                self.same(self.twice(sum_by, row, poly), frac(by_row(worths(row), worths(poly))))

    def test_sum_by_degree(self):
        for many in range(1, 10):
            row = fracs(*[1] * many)
            self.same(sum_by(row, fracs(*[1] * many)), frac(many))
            for more in range(many + 1, 13):
                poly = fracs(*[1] * more)
                self.assertIs(self.refused(BadPoly, poly, sum_by, row, poly), poly)

    def test_mixed(self):
        self.same(mixed(fracs(1, 2), fracs(3, -4), frac(1, 2), frac(2)), fracs((13, 2), -7))
        self.same(mixed(fracs(1, 2), fracs(3, -4), frac(0), frac(2)), fracs(6, -8))
        self.same(mixed(fracs(1, 2), fracs(3, -4), frac(1, 3), frac(0)), fracs((1, 3), (2, 3)))
        self.same(mixed(fracs(BIG), fracs((1, BIG)), frac(BIG), frac(BIGGER)), fracs((BIG ** 3 + BIGGER, BIG)))

    def test_mixes_and_beginnings_are_of_shares(self):
        r = random.Random(9)
        for _ in range(40):
            top = r.randint(0, 8)
            one, other = [moments(some_share(r, r.randint(1, 6)), top) for _ in range(2)]
            near, far = r.choice([(frac(0), frac(3)), (frac(2, 3), frac(0)), (frac(1, 2), frac(5))])
            mix = self.twice(mixed, one, other, near, far)
            self.same(mix, told([worth(near) * a + worth(far) * b for a, b in zip(worths(one), worths(other))]))
            self.assertIs(is_of_share(mix), True)
            for many in range(1, top + 2):
                self.assertIs(is_of_share(mix[:many]), True)

    def test_mixed_other_length(self):
        row = fracs(1, 2, 3)
        for other in [fracs(1), fracs(1, 2), fracs(1, 2, 3, 4), fracs(*range(1, 10))]:
            self.assertIs(self.refused(BadRow, other, mixed, row, other, frac(1), frac(1)), other)
            self.assertIs(self.refused(BadRow, other, mixed, row, other, None, frac(1)), other)
            self.assertIs(self.refused(BadRow, other, mixed, row, other, frac(0), frac(0)), other)

    def test_two_noughts(self):
        far = frac(0)
        self.assertIs(self.refused(BadFraction, far, mixed, fracs(1), fracs(2), frac(0), far), far)
        self.refused(BadFraction, frac(-1), mixed, fracs(1), fracs(2), frac(0), frac(-1))
        self.refused(BadFraction, frac(-1), mixed, fracs(1), fracs(2), frac(-1), far)

    def test_wrong(self):
        rows, shares, from_nought = (BadRow, wrong_rows()), (BadShare, wrong_shares()), wrong_from_nought()
        self.each_refused(need_row, (fracs(1, 2),), [rows])
        self.each_refused(need_share, (SHARE,), [shares])
        self.each_refused(moments, (SHARE, 4), [shares, (BadNumber, wrong_numbers(0, 8))])
        self.each_refused(sum_by, (fracs(1, 2), fracs(1, 2)), [rows, (BadPoly, wrong_polys())])
        wrong = [rows, rows, (BadFraction, from_nought), (BadFraction, from_nought)]
        self.each_refused(mixed, (fracs(1, 2), fracs(1, 2), frac(1), frac(2)), wrong)


if __name__ == "__main__":
    unittest.main()
