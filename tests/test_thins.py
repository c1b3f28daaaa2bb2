import random
import unittest

from rungshare.errors import BadLadder, BadRow
from rungshare.ladders import need_ladder, row_of
from rungshare.rows import moments
from rungshare.rowshares import is_of_share, ladder_of
from rungshare.thins import filled_row, thinned_ladder, thinned_row
from samples import BIG, Case, frac, fracs, rows_of_any_kind, some_above, some_ended, some_share, told, worth
from samples import wrong_ladders, wrong_rows


def even_ladder(r, levels, steps):
    """An open ladder whose levels are all nought."""
    return (some_above(r), fracs(*[0] * levels), tuple([some_above(r) for _ in range(steps)]))


class Thins(Case):

    def test_known(self):
        self.same(thinned_row(fracs(5)), fracs(5))
        self.same(thinned_row(fracs(5, 6)), fracs(5))
        self.same(thinned_row(fracs(1, 2, 3, 4, 5, 6, 7, 8, 9)), fracs(1, 3, 5, 7, 9))
        self.same(filled_row(fracs(5)), fracs(5))
        self.same(filled_row(fracs(5, 6)), fracs(5, 0, 6))
        self.same(filled_row(fracs(1, 2, 3, 4, 5)), fracs(1, 0, 2, 0, 3, 0, 4, 0, 5))
        self.same(filled_row(fracs(1, 2, 3, 4, 5, 6, 7)), fracs(1, 0, 2, 0, 3, 0, 4, 0, 5))
        total = frac(7)
        self.same(thinned_ladder((total, (), ())), (total, (), ()))
        self.same(thinned_ladder((total, fracs(0), ())), (total, (), ()))
        self.same(thinned_ladder((total, fracs(0), fracs(2))), (total, fracs(2), ()))
        self.same(thinned_ladder((total, fracs(0, 0), fracs(2, 3))), (total, fracs(2), fracs(6)))
        self.same(thinned_ladder((total, fracs(0, 0, 0), fracs(2, 3, 4))), (total, fracs(2, 7), fracs(6)))
        self.same(thinned_ladder((total, fracs(0, 0, 0, 0), fracs(2, 3, 4, 5))), (total, fracs(2, 7), fracs(6, 20)))

    def test_rows(self):
        for row in rows_of_any_kind(441, 30):
            thin = self.twice(thinned_row, row)
            self.same(thin, tuple([moment for k, moment in enumerate(row) if k % 2 == 0]))
            full = self.twice(filled_row, row)
            self.same(full, tuple([row[k // 2] if k % 2 == 0 else frac(0) for k in range(min(9, 2 * len(row) - 1))]))
            self.same(thinned_row(full), row[:5])
            if is_of_share(row):
                self.assertIs(is_of_share(thin), True)

    def test_shares(self):
        r = random.Random(442)
        for many in range(1, 7):
            for top in range(9):
                share = some_share(r, many, -3, 3)
                weights = {}
                for number, weight in share:
                    square = worth(number) ** 2
                    weights[square] = weights.get(square, 0) + worth(weight)
                squares = tuple([(frac(n), frac(weights[n])) for n in sorted(weights)])
                self.same(thinned_row(moments(share, top)), moments(squares, top // 2))
                above = some_share(r, many, 0, 5)
                full = filled_row(moments(above, top))
                self.assertIs(is_of_share(full), True)
                self.assertTrue(all([level == (0, 1) for level in ladder_of(full)[1]]))

    def test_ladders(self):
        r = random.Random(443)
        for steps in range(5):
            for levels in (steps, steps + 1):
                if levels > 4:
                    continue
                for _ in range(5):
                    ladder = even_ladder(r, levels, steps)
                    got = self.twice(thinned_ladder, ladder)
                    row = row_of(ladder, levels + steps)
                    self.assertTrue(all([moment == (0, 1) for moment in row[1::2]]))
                    self.same(ladder_of(thinned_row(row)), need_ladder(got))
                    self.assertEqual(len(got[1]) + len(got[2]), steps)

    def test_other_ladders(self):
        r = random.Random(444)
        for many in range(1, 5):
            for place in range(many):
                levels = told([0] * place + [worth(some_above(r))] + [0] * (many - place - 1))
                for steps in (many - 1, many):
                    ladder = (frac(1), levels, fracs(*[1] * steps))
                    self.assertIs(self.refused(BadLadder, ladder, thinned_ladder, ladder), ladder)
            ended = (frac(1), fracs(*[0] * many), fracs(*[1] * (many - 1) + [0]))
            self.assertIs(self.refused(BadLadder, ended, thinned_ladder, ended), ended)

    def test_many_figures(self):
        ladder = (frac(BIG), fracs(0, 0, 0, 0), fracs(BIG, (1, BIG), BIG, BIG))
        self.same(thinned_ladder(ladder), (frac(BIG), told([BIG, worth((1, BIG)) + BIG]), fracs(1, BIG * BIG)))

    def test_wrong(self):
        rows = (BadRow, wrong_rows())
        self.each_refused(thinned_row, (fracs(1, 2, 3),), [rows])
        self.each_refused(filled_row, (fracs(1, 2, 3),), [rows])
        ended = [some_ended(random.Random(445), many) for many in range(1, 6)]
        self.each_refused(thinned_ladder, ((frac(1), fracs(0), ()),), [(BadLadder, wrong_ladders() + ended)])


if __name__ == "__main__":
    unittest.main()
