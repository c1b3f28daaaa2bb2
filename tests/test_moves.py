import random
import unittest
from fractions import Fraction
from math import comb

from rungshare.cumulants import cumulants_of
from rungshare.errors import BadFraction, BadLadder, BadRow
from rungshare.ladders import row_of
from rungshare.moves import moved_ladder, moved_row, scaled_ladder, scaled_row, times_row, with_atom
from rungshare.rows import moments
from rungshare.rowshares import is_of_share, ladder_of
from samples import BIG, BIGGER, Case, frac, fracs, ladders, last_of, rows_of_any_kind, some_above, some_fraction
from samples import some_share, told, worth, wrong_above, wrong_fractions, wrong_ladders, wrong_rows

NOUGHTS = [(0, 1), (0, 2), (0, 0)]


def changed(share, number_of, weight_of):
    """The share with each number and each weight changed, the numbers ascending."""
    pairs = sorted([(number_of(worth(n)), weight_of(worth(w))) for n, w in share])
    return tuple([(frac(n), frac(w)) for n, w in pairs])


class Moves(Case):

    def test_known(self):
        row = fracs(1, 0, 1)
        self.same(moved_row(row, frac(2)), fracs(1, 2, 5))
        self.same(scaled_row(row, frac(-3)), fracs(1, 0, 9))
        self.same(times_row(row, frac(1, 2)), fracs((1, 2), 0, (1, 2)))
        self.same(with_atom(row, frac(2), frac(3)), fracs(4, 6, 13))
        self.same(with_atom(fracs(1), frac(0), frac(3)), fracs(4))
        self.same(with_atom(fracs(1, 1), frac(0), frac(3)), fracs(4, 1))
        ladder = (frac(5), fracs(1, 2), fracs(3))
        self.same(moved_ladder(ladder, frac(1, 2)), (frac(5), fracs((3, 2), (5, 2)), fracs(3)))
        self.same(scaled_ladder(ladder, frac(-2)), (frac(5), fracs(-2, -4), fracs(12)))
        self.same(moved_ladder((frac(5), (), ()), frac(1)), (frac(5), (), ()))
        self.same(scaled_ladder((frac(5), (), ()), frac(7)), (frac(5), (), ()))
        self.same(scaled_ladder((frac(5), fracs(1), fracs(0)), frac(7)), (frac(5), fracs(7), fracs(0)))
        self.same(moved_row(row, frac(0)), row)

    def test_rows(self):
        r = random.Random(421)
        for row in rows_of_any_kind(422, 30):
            step, factor, many = some_fraction(r), some_above(r), some_above(r)
            if r.randint(0, 1):
                factor = frac(-worth(factor))
            is_so = is_of_share(row)
            moved = [sum([comb(k, j) * worth(step) ** (k - j) * worth(row[j]) for j in range(k + 1)])
                     for k in range(len(row))]
            self.same(self.twice(moved_row, row, step), told(moved))
            self.same(self.twice(scaled_row, row, factor),
                      told([worth(factor) ** k * worth(m) for k, m in enumerate(row)]))
            self.same(self.twice(times_row, row, many), told([worth(many) * worth(m) for m in row]))
            for got in (moved_row(row, step), scaled_row(row, factor), times_row(row, many)):
                self.assertIs(is_of_share(got), is_so)
            more = [worth(m) + worth(many) * worth(step) ** k for k, m in enumerate(row)]
            self.same(self.twice(with_atom, row, step, many), told(more))
            if is_so:
                self.assertIs(is_of_share(with_atom(row, step, many)), True)
            # Back again.
            self.same(moved_row(moved_row(row, step), frac(-worth(step))), row)
            self.same(scaled_row(scaled_row(row, factor), frac(1 / worth(factor))), row)

    def test_shares(self):
        r = random.Random(423)
        for many in range(1, 7):
            for top in range(9):
                share = some_share(r, many)
                row = moments(share, top)
                step, factor, times = some_fraction(r), frac(r.choice([-3, 2]), r.randint(1, 5)), some_above(r)
                self.same(moved_row(row, step), moments(changed(share, lambda n: n + worth(step), lambda w: w), top))
                self.same(scaled_row(row, factor), moments(changed(share, lambda n: n * worth(factor), lambda w: w),
                                                           top))
                self.same(times_row(row, times), moments(changed(share, lambda n: n, lambda w: w * worth(times)), top))
                number = share[r.randrange(many)][0]
                heavier = tuple([(n, frac(worth(w) + worth(times)) if n == number else w) for n, w in share])
                self.same(with_atom(row, number, times), moments(heavier, top))

    def test_ladders(self):
        r = random.Random(424)
        for ladder in ladders(425):
            step, factor, many = some_fraction(r), frac(r.choice([-3, 2]), r.randint(1, 5)), some_above(r)
            row = row_of(ladder, last_of(ladder))
            moved, scaled = self.twice(moved_ladder, ladder, step), self.twice(scaled_ladder, ladder, factor)
            self.same(row_of(moved, last_of(ladder)), moved_row(row, step))
            self.same(row_of(scaled, last_of(ladder)), scaled_row(row, factor))
            if len(ladder[2]) < 5:
                self.same(ladder_of(moved_row(row, step)), moved)
                self.same(ladder_of(scaled_row(row, factor)), scaled)
                self.same(ladder_of(times_row(row, many)), (frac(worth(ladder[0]) * worth(many)),) + ladder[1:])

    def test_cumulants(self):
        r = random.Random(426)
        for row in rows_of_any_kind(427, 10):
            step, factor = some_fraction(r), frac(r.choice([-3, 2]), r.randint(1, 5))
            for kind in ("all", "free", "stretch"):
                before = cumulants_of(row, kind)
                scaled = [worth(c) * worth(factor) ** (k + 1) for k, c in enumerate(before)]
                self.same(cumulants_of(scaled_row(row, factor), kind), told(scaled))
                if kind != "stretch" and before:
                    self.same(cumulants_of(moved_row(row, step), kind), (frac(worth(before[0]) + worth(step)),)
                              + before[1:])

    def test_noughts(self):
        row, ladder = fracs(1, 0, 1), (frac(1), fracs(0), fracs(1))
        for bad in NOUGHTS:
            self.assertIs(self.refused(BadFraction, bad, scaled_row, row, bad), bad)
            self.assertIs(self.refused(BadFraction, bad, scaled_ladder, ladder, bad), bad)
        for bad in NOUGHTS + fracs_below():
            self.assertIs(self.refused(BadFraction, bad, times_row, row, bad), bad)
            self.assertIs(self.refused(BadFraction, bad, with_atom, row, frac(1), bad), bad)

    def test_many_figures(self):
        row = tuple([frac(BIG - k, BIGGER + k) for k in range(9)])
        step = Fraction(BIGGER, BIG)
        wanted = [sum([comb(k, j) * step ** (k - j) * worth(row[j]) for j in range(k + 1)]) for k in range(9)]
        self.same(moved_row(row, frac(step)), told(wanted))
        self.same(scaled_row(row, frac(step))[8], frac(step ** 8 * worth(row[8])))

    def test_wrong(self):
        rows, all_ladders = (BadRow, wrong_rows()), (BadLadder, wrong_ladders())
        fractions, above = (BadFraction, wrong_fractions()), (BadFraction, wrong_above())
        factors = (BadFraction, wrong_fractions() + NOUGHTS)
        row, ladder = fracs(1, 2, 3), (frac(1), fracs(1), fracs(2))
        self.each_refused(moved_row, (row, frac(1)), [rows, fractions])
        self.each_refused(scaled_row, (row, frac(-1)), [rows, factors])
        self.each_refused(times_row, (row, frac(1)), [rows, above])
        self.each_refused(moved_ladder, (ladder, frac(1)), [all_ladders, fractions])
        self.each_refused(scaled_ladder, (ladder, frac(-1)), [all_ladders, factors])
        self.each_refused(with_atom, (row, frac(0), frac(1)), [rows, fractions, above])


def fracs_below():
    return list(fracs(-1, (-1, BIG), -BIG))


if __name__ == "__main__":
    unittest.main()
