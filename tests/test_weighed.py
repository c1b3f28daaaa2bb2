import random
import unittest
from fractions import Fraction

from rungshare.errors import BadFraction, BadLadder, BadRow, Missing
from rungshare.ladders import row_of, rung_polys
from rungshare.rows import moments, need_row
from rungshare.rowshares import is_of_share, ladder_of
from rungshare.signs import rational_roots
from rungshare.weighed import by_line, by_square, line_steps
from samples import BIG, BIGGER, Case, at, frac, fracs, is_open, ladders, last_of, rows_of_any_kind, some_ended
from samples import some_fraction, some_open, some_share, told, worth, worths, wrong_fractions, wrong_ladders
from samples import wrong_rows


def model_line(row, place):
    return [worth(b) - worth(place) * worth(a) for a, b in zip(row, row[1:])]


def model_square(row, place):
    c = worth(place)
    return [worth(row[k + 2]) - 2 * c * worth(row[k + 1]) + c * c * worth(row[k]) for k in range(len(row) - 2)]


class Weighed(Case):

    def test_known(self):
        row = fracs(1, 1, 2, 4)
        self.same(by_line(row, frac(0)), fracs(1, 2, 4))
        self.same(by_line(row, frac(-1)), fracs(2, 3, 6))
        self.same(by_line(row, frac(1)), None)
        self.same(by_line(row, frac(2)), None)
        self.same(by_square(row, frac(0)), fracs(2, 4))
        self.same(by_square(row, frac(1)), fracs(1, 1))
        self.same(by_square(fracs(1, 1, 1), frac(1)), None)
        self.same(by_square(fracs(1, 1, 0), frac(1)), None)
        self.same(by_line(fracs(1, 2), frac(1)), fracs(1))
        self.same(by_square(fracs(1, 2, 5), frac(1)), fracs(2))
        self.same(line_steps((frac(1), (), ()), frac(5)), ((), ()))
        self.same(line_steps((frac(1), fracs(2), ()), frac(1)), (fracs(1), ()))
        self.same(line_steps((frac(1), fracs(2), fracs(3)), frac(1)), (fracs(1), fracs(3)))
        self.refused(Missing, 2, line_steps, (frac(1), fracs(2, 4), fracs(3)), frac(1))
        self.same(line_steps((frac(1), fracs(2, 5), fracs(3)), frac(1)), (fracs(1, 1), fracs(3)))
        self.same(line_steps((frac(1), fracs(2, 5), fracs(3, 7)), frac(1)), (fracs(1, 1), fracs(3, 7)))

    def test_any_rows(self):
        r = random.Random(431)
        seen = {}
        for row in rows_of_any_kind(432, 30):
            for place in (frac(0), frac(r.randint(-3, 3)), some_fraction(r)):
                for deed, model, least in ((by_line, model_line, 2), (by_square, model_square, 3)):
                    if len(row) < least:
                        self.assertIs(self.refused(BadRow, row, deed, row, place), row)
                        continue
                    wanted = model(row, place)
                    got = self.twice(deed, row, place)
                    seen[least, got is None] = True
                    self.same(got, told(wanted) if wanted[0] > 0 else None)
                    if got is not None:
                        need_row(got)
        self.assertEqual(len(seen), 4)

    def test_shares(self):
        r = random.Random(433)
        for many in range(1, 7):
            for top in range(1, 9):
                share = some_share(r, many)
                row = moments(share, top)
                for low in (worth(share[0][0]), worth(share[0][0]) - Fraction(1, 3)):
                    left = tuple([(n, frac(worth(w) * (worth(n) - low))) for n, w in share if worth(n) > low])
                    wanted = moments(left, top - 1) if left else None
                    self.same(by_line(row, frac(low)), wanted)
                    if wanted is not None:
                        self.assertIs(is_of_share(wanted), True)
                if top > 1:
                    for place in (worth(share[-1][0]), worth(some_fraction(r))):
                        left = tuple([(n, frac(worth(w) * (worth(n) - place) ** 2)) for n, w in share
                                      if worth(n) != place])
                        self.same(by_square(row, frac(place)), moments(left, top - 2) if left else None)

    def test_line_steps(self):
        r = random.Random(434)
        whole = 0
        for ladder in ladders(435, 5):
            if not is_open(ladder):
                continue
            polys = [worths(poly) for poly in rung_polys(ladder)]
            for place in (frac(-30), frac(30), some_fraction(r)):
                sums = [at(poly, worth(place)) for poly in polys]
                if 0 in sums:
                    continue
                ups, downs = self.twice(line_steps, ladder, place)
                self.same(ups, told([-after / here for here, after in zip(sums, sums[1:])]))
                self.same(downs, told([worth(step) / worth(up) for step, up in zip(ladder[2], ups)]))
                row = row_of(ladder, last_of(ladder))
                weighed = by_line(row, place) if len(row) > 1 else None
                if weighed is None or not is_of_share(weighed):
                    continue
                got = ladder_of(weighed)
                levels = [worth(place) + worth(up) + worth(down) for up, down in zip(ups, downs)]
                steps = [worth(up) * worth(down) for up, down in zip(ups[1:], downs)]
                self.same(got[1][:len(levels)], told(levels)[:len(got[1])])
                self.same(got[2][:len(steps)], told(steps)[:len(got[2])])
                self.same(len(got[1]) + len(got[2]), len(row) - 2)
                whole += 1
        self.assertGreater(whole, 20)

    def test_missing(self):
        seen = {}
        for ladder in ladders(436, 6):
            if not is_open(ladder):
                continue
            polys = rung_polys(ladder)
            for poly in polys[1:]:
                for mark in rational_roots(poly):
                    first = min([k for k, one in enumerate(polys) if at(worths(one), worth(mark)) == 0])
                    self.refused(Missing, first, line_steps, ladder, mark)
                    seen[first] = True
        zeros = (frac(1), fracs(0, 0, 0, 0), fracs(1, 1, 1, 1))
        self.refused(Missing, 1, line_steps, zeros, frac(0))
        self.refused(Missing, 2, line_steps, zeros, frac(1))
        self.refused(Missing, 2, line_steps, (frac(1), fracs(0, 0), fracs(1)), frac(1))
        self.refused(Missing, 3, line_steps, (frac(1), fracs(0, 0, 0), fracs(1, (5, 4))), frac(3, 2))
        self.assertTrue(1 in seen)

    def test_ended(self):
        r = random.Random(437)
        for many in range(1, 6):
            ladder = some_ended(r, many)
            self.assertIs(self.refused(BadLadder, ladder, line_steps, ladder, frac(1)), ladder)
            self.refused(BadLadder, ladder, line_steps, ladder, None)
            ladder = some_open(r, min(many, 4), min(many, 4))
            ups, downs = line_steps(ladder, frac(1000))
            self.assertEqual((len(ups), len(downs)), (len(ladder[1]), len(ladder[2])))

    def test_many_figures(self):
        ladder = (frac(BIG), fracs(BIG, (1, BIG), -BIGGER, (BIGGER, BIG)), fracs(BIG, (1, BIGGER), BIGGER, (1, BIG)))
        ups, downs = line_steps(ladder, frac(BIGGER, BIG))
        sums = [at(worths(poly), Fraction(BIGGER, BIG)) for poly in rung_polys(ladder)]
        self.same(ups, told([-after / here for here, after in zip(sums, sums[1:])]))
        row = row_of(ladder, 8)
        self.same(by_square(row, frac(-BIG, BIGGER)), told(model_square(row, frac(-BIG, BIGGER))))
        self.same(by_line(row, frac(-BIG)), told(model_line(row, frac(-BIG))))

    def test_wrong(self):
        fractions = (BadFraction, wrong_fractions())
        self.each_refused(by_line, (fracs(1, 2), frac(0)), [(BadRow, wrong_rows() + [fracs(1)]), fractions])
        self.each_refused(by_square, (fracs(1, 2, 5), frac(0)), [(BadRow, wrong_rows() + [fracs(1), fracs(1, 2)]),
                                                                 fractions])
        ended = [some_ended(random.Random(438), many) for many in range(1, 6)]
        self.each_refused(line_steps, ((frac(1), fracs(1, 2), fracs(1)), frac(7)),
                          [(BadLadder, wrong_ladders() + ended), fractions])


if __name__ == "__main__":
    unittest.main()
