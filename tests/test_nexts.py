import random
import unittest

from rungshare.errors import BadFraction, BadRow, NoShare, TooMany
from rungshare.ladders import is_ended, row_of
from rungshare.nexts import does_fit, next_fits
from rungshare.rows import moments
from rungshare.rowshares import is_of_share, ladder_of, row_paper
from samples import BIG, Case, frac, fracs, ladders, last_of, rows_of_any_kind, some_share, worth, wrong_fractions
from samples import wrong_rows


class Nexts(Case):

    def test_known(self):
        self.same(next_fits(fracs(3)), ("any",))
        self.same(next_fits(fracs(2, 3)), ("from", frac(9, 2)))
        self.same(next_fits(fracs(1, 0, 1)), ("any",))
        self.same(next_fits(fracs(1, 0, 1, 0)), ("from", frac(1)))
        self.same(next_fits(fracs(1, 0, 1, 2)), ("from", frac(5)))
        self.same(next_fits(fracs(2, 6, 18)), ("only", frac(54)))
        self.same(next_fits(fracs(1, 0, 1, 0, 1)), ("only", frac(0)))
        self.same(next_fits(fracs(1, 0, 1, 0, 1, 0)), ("only", frac(1)))
        self.same(next_fits(fracs(1, 0, 1, 0, 2, 0, 5, 0)), ("from", frac(13)))

    def test_does_fit(self):
        self.assertIs(does_fit(fracs(1, 0, 1, 0), frac(1)), True)
        self.assertIs(does_fit(fracs(1, 0, 1, 0), frac(BIG - 1, BIG)), False)
        self.assertIs(does_fit(fracs(1, 0, 1, 0), frac(BIG, BIG - 1)), True)
        self.assertIs(does_fit(fracs(1, 0, 1), frac(-BIG)), True)
        self.assertIs(does_fit(fracs(2, 6, 18), frac(54)), True)
        self.assertIs(does_fit(fracs(2, 6, 18), frac(55)), False)
        self.assertIs(does_fit(fracs(2, 6, 18), frac(53)), False)

    def fits(self, row, mark, wanted):
        self.assertIs(self.twice(does_fit, row, mark), wanted)
        self.assertIs(is_of_share(row + (mark,)), wanted)

    def test_behind_rows(self):
        kinds = {}
        rows = [row_of(ladder, last_of(ladder))[:8] for ladder in ladders(31, 4)]
        r = random.Random(32)
        rows += [moments(some_share(r, r.randint(1, 6)), r.randint(0, 7)) for _ in range(40)]
        for row in rows:
            told = self.twice(next_fits, row)
            kinds[told[0]] = kinds.get(told[0], 0) + 1
            ladder = ladder_of(row)
            if told[0] == "from":
                self.assertEqual(len(ladder[1]), len(ladder[2]) + 1)
                least = worth(told[1])
                self.fits(row, told[1], True)
                self.assertIs(is_ended(ladder_of(row + (told[1],))), True)
                for more in [(1, 1), (1, BIG), (BIG, 1)]:
                    self.fits(row, frac(least - worth(more)), False)
                    self.fits(row, frac(least + worth(more)), True)
                    self.assertIs(is_ended(ladder_of(row + (frac(least + worth(more)),))), False)
            elif told[0] == "any":
                self.same(told, ("any",))
                self.assertEqual(len(ladder[1]), len(ladder[2]))
                self.assertIs(is_ended(ladder), False)
                for mark in fracs(0, 1, -1, BIG, -BIG, (1, BIG)):
                    self.fits(row, mark, True)
            else:
                self.assertIs(is_ended(ladder), True)
                self.fits(row, told[1], True)
                for more in [(1, 1), (-1, 1), (1, BIG), (-1, BIG), (BIG, 1)]:
                    self.fits(row, frac(worth(told[1]) + worth(more)), False)
        self.assertEqual(sorted(kinds), ["any", "from", "only"])

    def test_nine(self):
        r = random.Random(33)
        for row in [moments(some_share(r, many), 8) for many in (1, 4, 5, 6)]:
            self.refused(TooMany, 9, next_fits, row)
            self.refused(TooMany, 9, does_fit, row, frac(1))
            self.assertIn(next_fits(row[:8])[0], ("from", "only"))
            self.assertIs(does_fit(row[:8], row[8]), True)

    def test_no_share(self):
        for row in rows_of_any_kind(34) + [fracs(1, 0, -1, 0, 0, 0, 0, 0, 0), fracs(1, 0, 0, 0, 0, 0, 0, 0, 1)]:
            paper = row_paper(row)
            if paper[0] != "ladder":
                self.refused(NoShare, paper, next_fits, row)
                self.refused(NoShare, paper, does_fit, row, frac(1))
                self.refused(BadFraction, None, does_fit, row, None)

    def test_wrong(self):
        rows, fractions = (BadRow, wrong_rows()), (BadFraction, wrong_fractions())
        self.each_refused(next_fits, (fracs(1, 2),), [rows])
        self.each_refused(does_fit, (fracs(1, 2), frac(5)), [rows, fractions])
        nine = fracs(1, 0, 0, 0, 0, 0, 0, 0, 0)
        for thing in wrong_fractions():
            self.assertIs(self.refused(BadFraction, thing, does_fit, nine, thing), thing)


if __name__ == "__main__":
    unittest.main()
