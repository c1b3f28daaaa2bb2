import random
import unittest
from fractions import Fraction
from math import comb

from rungshare.cumulants import cumulants_of
from rungshare.errors import BadKind, BadRow, BadShare, TooMany
from rungshare.kindsums import kind_sum, share_sum
from rungshare.ladders import row_of
from rungshare.rows import mixed, moments, need_share
from rungshare.rowshares import is_of_share, ladder_of
from rungshare.rungsabove import ladder_above
from samples import BIG, BIGGER, Case, add, frac, fracs, ladders, last_of, rows_of_any_kind, some_share, told, worth
from samples import worths, wrong_kinds, wrong_rows, wrong_shares
from test_partings import KINDS


def pairs_of_rows(seed, many=12):
    """Rows of any kind, with others as long."""
    rows = rows_of_any_kind(seed, many)
    return [(one, other) for one in rows for other in rows if len(one) == len(other)][::7]


def model_share_sum(share, second):
    weights = {}
    for a, v in share:
        for b, w in second:
            weights[worth(a) + worth(b)] = weights.get(worth(a) + worth(b), 0) + worth(v) * worth(w)
    return tuple([(frac(n), frac(weights[n])) for n in sorted(weights)])


class KindSums(Case):

    def test_known(self):
        for kind in KINDS:
            self.same(kind_sum(fracs(2), fracs(3), kind), fracs(6))
            self.same(kind_sum(fracs(1, 1), fracs(1, 2), kind), fracs(1, 3))
            self.same(kind_sum(fracs(1, 0, 1), fracs(1, 0, 1), kind), fracs(1, 0, 2))
        self.same(kind_sum(fracs(1, 0, 1, 0, 1), fracs(1, 0, 1, 0, 1), "all"), fracs(1, 0, 2, 0, 8))
        self.same(kind_sum(fracs(1, 0, 1, 0, 1), fracs(1, 0, 1, 0, 1), "free"), fracs(1, 0, 2, 0, 6))
        self.same(kind_sum(fracs(1, 0, 1, 0, 1), fracs(1, 0, 1, 0, 1), "stretch"), fracs(1, 0, 2, 0, 4))
        half = ((frac(-1), frac(1, 2)), (frac(1), frac(1, 2)))
        self.same(share_sum(half, half), ((frac(-2), frac(1, 4)), (frac(0), frac(1, 2)), (frac(2), frac(1, 4))))

    def test_cumulants(self):
        for one, other in pairs_of_rows(411):
            for kind in KINDS:
                got = self.twice(kind_sum, one, other, kind)
                both = add(worths(cumulants_of(one, kind)), worths(cumulants_of(other, kind)))
                both += [Fraction(0)] * (len(one) - 1 - len(both))
                self.same(cumulants_of(got, kind), told(both))
                self.same(got[0], frac(worth(one[0]) * worth(other[0])))
                self.same(kind_sum(other, one, kind), got)

    def test_by_all(self):
        for one, other in pairs_of_rows(412):
            wanted = [sum([comb(k, j) * worth(one[j]) * worth(other[k - j]) for j in range(k + 1)])
                      for k in range(len(one))]
            self.same(kind_sum(one, other, "all"), told(wanted))

    def test_shares(self):
        r = random.Random(413)
        for _ in range(25):
            top = r.randint(0, 8)
            one, other = some_share(r, r.randint(1, 4), -2, 2), some_share(r, r.randint(1, 4), -2, 2)
            rows = (moments(one, top), moments(other, top))
            for kind in KINDS:
                self.assertIs(is_of_share(kind_sum(*rows, kind)), True)
            wanted = model_share_sum(one, other)
            if len(wanted) <= 6:
                self.same(kind_sum(*rows, "all"), moments(wanted, top))

    def test_by_stretch(self):
        some = [ladder for ladder in ladders(414) if len(ladder[1]) > 1]
        for one in some:
            for other in some[::5]:
                top = min(last_of(one), last_of(other))
                got = ladder_of(kind_sum(row_of(one, top), row_of(other, top), "stretch"))
                for k in (1, 2):
                    self.same(got[k][0], frac(worth(one[k][0]) + worth(other[k][0])))
                if len(got[1]) < 2:
                    continue
                both = worth(one[2][0]) + worth(other[2][0])
                far = top - 2
                above = [row_of(ladder_above(ladder), far) for ladder in (one, other)]
                wanted = mixed(*above, frac(worth(one[2][0]) / both), frac(worth(other[2][0]) / both))
                self.same(row_of(ladder_above(got), far), wanted)

    def test_share_sums(self):
        r = random.Random(415)
        seen = {}
        for _ in range(150):
            one, other = [some_share(r, r.randint(1, 4), -1, 1) for _ in range(2)]
            wanted = model_share_sum(one, other)
            seen[len(wanted)] = True
            if len(wanted) > 6:
                self.refused(TooMany, 6, share_sum, one, other)
            else:
                self.same(self.twice(share_sum, one, other), wanted)
                self.same(need_share(share_sum(other, one)), wanted)
        self.assertTrue(all([many in seen for many in (2, 3, 4, 6)]), seen)

    def test_six_and_seven(self):
        def line(many, step=1):
            return tuple([(frac(k * step), frac(k + 1)) for k in range(many)])
        self.assertEqual(len(share_sum(line(3), line(4))), 6)
        self.assertEqual(len(share_sum(line(6), line(1))), 6)
        self.assertEqual(len(share_sum(line(2), line(3, 2))), 6)
        for one, other in [(line(4), line(4)), (line(6), line(2)), (line(2), line(6)), (line(6), line(6)),
                           (line(2), line(4, 2))]:
            self.refused(TooMany, 6, share_sum, one, other)
        self.refused(BadShare, None, share_sum, line(6), None)

    def test_many_figures(self):
        rows = [tuple([frac(BIG - k, BIGGER + j * k) for k in range(9)]) for j in (2, 3)]
        for kind in KINDS:
            got = kind_sum(*rows, kind)
            both = [a + b for a, b in zip(*[worths(cumulants_of(row, kind)) for row in rows])]
            self.same(cumulants_of(got, kind), told(both))
        share = ((frac(-BIG), frac(1, BIG)), (frac(1, BIG), frac(BIG)))
        self.same(share_sum(share, share), model_share_sum(share, share))

    def test_lengths(self):
        for many in range(1, 10):
            for other in range(1, 10):
                if many != other:
                    row = fracs(*[1] * other)
                    self.assertIs(self.refused(BadRow, row, kind_sum, fracs(*[1] * many), row, "all"), row)
                    self.refused(BadRow, row, kind_sum, fracs(*[1] * many), row, None)

    def test_wrong(self):
        rows, shares = (BadRow, wrong_rows()), (BadShare, wrong_shares())
        good = ((frac(1), frac(1)),)
        self.each_refused(kind_sum, (fracs(1, 2), fracs(1, 2), "all"), [rows, rows, (BadKind, wrong_kinds())])
        self.each_refused(share_sum, (good, good), [shares, shares])


if __name__ == "__main__":
    unittest.main()
