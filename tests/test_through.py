import random
import unittest

from rungshare.errors import BadFraction, BadOpen, BadRow, NoShare
from rungshare.ladders import is_ended, need_ladder, norms, row_of, rung_polys
from rungshare.marks import most_at
from rungshare.polys import worth_at
from rungshare.rows import moments
from rungshare.sides import turned_to
from rungshare.signs import rational_roots
from rungshare.through import ladder_through
from samples import BIG, BIGGER, Case, at, frac, fracs, last_of, level_ladders, model_row, rows_not_level
from samples import rows_of_no_share, some_fraction, some_share, worth, worths, wrong_fractions, wrong_rows

PLAIN = fracs(1, 0, 1)


class Through(Case):

    def test_known(self):
        self.same(ladder_through(PLAIN, frac(1)), (frac(1), fracs(0, 0), fracs(1, 0)))
        self.same(ladder_through(PLAIN, frac(2)), (frac(1), fracs(0, (3, 2)), fracs(1, 0)))
        self.same(ladder_through(PLAIN, frac(0)), None)
        self.same(ladder_through(fracs(5), frac(2, 3)), (frac(5), fracs((2, 3)), fracs(0)))
        self.same(ladder_through(fracs(5), frac(0)), (frac(5), fracs(0), fracs(0)))
        self.same(ladder_through(fracs(1, 0, 1, 0, 2), frac(1)), None)

    def test_through(self):
        r = random.Random(381)
        seen = {}
        for ladder in level_ladders(382, 4):
            row = row_of(ladder, last_of(ladder))
            last = rung_polys(ladder)[-1]
            marks = [frac(0), frac(1), some_fraction(r), frac(BIG)]
            marks += [mark for poly in rung_polys(ladder)[1:] for mark in rational_roots(poly)]
            for mark in marks:
                got = self.twice(ladder_through, row, mark)
                if worth_at(last, mark) == frac(0):
                    self.assertIs(got, None)
                    seen[None] = True
                    continue
                many = len(ladder[1])
                seen[many] = True
                self.same(need_ladder(got), (ladder[0], ladder[1] + (got[1][-1],), ladder[2] + fracs(0)))
                self.assertIs(is_ended(got), True)
                self.assertEqual(at(worths(rung_polys(got)[-1]), worth(mark)), 0)
                self.same(model_row(got, last_of(ladder)), row)
                # The weight of the share at the mark is by the near fraction the most.
                polys = [at(worths(poly), worth(mark)) for poly in rung_polys(got)[:-1]]
                whole = sum([poly ** 2 / worth(norm) for poly, norm in zip(polys, norms(got))])
                self.same(most_at(row, mark), frac(1 / whole))
        self.assertEqual(len(seen), 6)

    def test_shares(self):
        r = random.Random(383)
        for many in range(1, 6):
            for _ in range(4):
                share = some_share(r, many)
                row = moments(share, 2 * many - 2)
                for number, weight in share:
                    ladder = ladder_through(row, number)
                    self.same(most_at(row, number), weight)
                    self.same(turned_to(("ladder", ladder), "share"), ("share", share))

    def test_rows_refused(self):
        for row in rows_not_level(384):
            self.assertIs(self.refused(BadOpen, row, ladder_through, row, frac(1)), row)
            self.refused(BadFraction, 1, ladder_through, row, 1)
        for row, paper in rows_of_no_share(385):
            self.refused(NoShare, paper, ladder_through, row, frac(1))
            self.refused(BadFraction, None, ladder_through, row, None)

    def test_many_figures(self):
        ladder = (frac(BIG), fracs(BIG, (1, BIG), -BIGGER, (BIGGER, BIG)), fracs(BIG, (1, BIGGER), BIGGER, (1, BIG)))
        mark = frac(BIGGER, BIG)
        got = ladder_through(row_of(ladder, 8), mark)
        self.assertEqual(at(worths(rung_polys(got)[-1]), worth(mark)), 0)

    def test_wrong(self):
        self.each_refused(ladder_through, (PLAIN, frac(1)), [(BadRow, wrong_rows()), (BadFraction, wrong_fractions())])


if __name__ == "__main__":
    unittest.main()
