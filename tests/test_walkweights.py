import random
import unittest
from fractions import Fraction

from rungshare.cuts import cut_table
from rungshare.errors import BadNumber, BadRates
from rungshare.ladders import rung_polys
from rungshare.rates import back_row, chances, is_closed
from rungshare.rowshares import check_row
from rungshare.signs import roots_in
from rungshare.tables import corner, table_of
from rungshare.walks import walk_ladder
from rungshare.walkweights import first_backs, mean_back, rung_weights
from samples import BIG, Case, at, frac, fracs, model_rungs, some_rates, worth, worths, wrong_numbers, wrong_rates
from test_rates import PAIR, rates_of_any_kind


class WalkWeights(Case):

    def test_known(self):
        self.same(rung_weights(PAIR), fracs(1, 1))
        self.same(rung_weights((fracs(1, 0, 0), fracs((1, 2), 0, (1, 2)), fracs(0, 0, 1))), fracs(1, 2, 1))
        self.same(mean_back((fracs(1, 0, 0), fracs((1, 2), 0, (1, 2)), fracs(0, 0, 1))), frac(4))
        self.same(mean_back((fracs(0, 1, 0),)), frac(1))
        self.assertIs(mean_back((fracs(1, 0, 0),)), None)
        self.assertIs(mean_back(PAIR), None)
        self.same(first_backs(PAIR, 0), ())
        self.same(first_backs(PAIR, 1), fracs((1, 2)))
        self.same(first_backs(PAIR, 4), fracs((1, 2), (1, 4), (1, 16), (1, 64)))
        self.same(first_backs((fracs((1, 3), (2, 3), 0),), 8), fracs((2, 3), 0, 0, 0, 0, 0, 0, 0))

    def test_weights(self):
        for rates in rates_of_any_kind(281):
            weights = self.twice(rung_weights, rates)
            self.assertEqual(len(weights), len(rates))
            self.same(weights[0], frac(1))
            for k in range(len(rates) - 1):
                self.assertEqual(worth(weights[k]) * worth(rates[k][0]), worth(weights[k + 1]) * worth(rates[k + 1][2]))
            for steps in (1, 2, 5):
                found = [worths(chances(rates, rung, steps)) for rung in range(len(rates))]
                for i in range(len(rates)):
                    for j in range(len(rates)):
                        self.assertEqual(worth(weights[i]) * found[i][j], worth(weights[j]) * found[j][i])

    def test_mean(self):
        for rates in rates_of_any_kind(282):
            mean = self.twice(mean_back, rates)
            if not is_closed(rates):
                self.assertIs(mean, None)
                continue
            self.same(mean, frac(sum(worths(rung_weights(rates)))))
            # 1 is a number of the share, with the weight 1 by this: the least square with the worth 1 at 1.
            polys, norm = model_rungs(walk_ladder(rates)), Fraction(1)
            whole = Fraction(0)
            for poly, step in zip(polys, worths(walk_ladder(rates)[2])):
                whole += at(poly, 1) ** 2 / norm
                norm *= step
            self.assertEqual(worth(mean), whole)
            self.assertEqual(at(polys[-1], 1), 0)
            self.assertEqual(roots_in(rung_polys(walk_ladder(rates))[-1], frac(1), frac(BIG)), 0)

    def test_first_backs(self):
        for rates in rates_of_any_kind(283):
            for top in range(9):
                found = self.twice(first_backs, rates, top)
                self.assertEqual(len(found), top)
            firsts, row = worths(found), worths(back_row(rates, 8))
            for k in range(1, 9):
                self.assertEqual(row[k], sum([firsts[j - 1] * row[k - j] for j in range(1, k + 1)]))
                if k > 1 and len(rates) > 1:
                    there = worth(rates[0][0]) * worth(rates[1][2])
                    table = cut_table(table_of(walk_ladder(rates)))
                    self.assertEqual(firsts[k - 1], there * worth(corner(table, k - 2)))
                elif k > 1:
                    self.assertEqual(firsts[k - 1], 0)

    def test_mean_of_first_backs(self):
        # The walker is on rung 1 or above until it is back: all chances of a first coming back are together 1.
        rates = (fracs((1, 2), (1, 2), 0), fracs(0, 0, 1))
        self.same(first_backs(rates, 8), fracs((1, 2), (1, 2), 0, 0, 0, 0, 0, 0))
        self.same(mean_back(rates), frac(3, 2))

    def test_a_share(self):
        rates = (fracs((1, 2), (1, 2), 0), fracs(0, (1, 3), (2, 3)))
        row = back_row(rates, 8)
        self.assertEqual(check_row(row, ("ladder", walk_ladder(rates))), "ladder")
        self.same(mean_back(rates), frac(7, 4))

    def test_many_figures(self):
        rates = ((frac(1, BIG), frac(BIG - 1, BIG), frac(0)), (frac(0), frac(BIG - 1, BIG), frac(1, BIG)))
        self.same(rung_weights(rates), fracs(1, 1))
        self.same(mean_back(rates), frac(2))
        self.same(first_backs(rates, 8)[-1], frac(Fraction((BIG - 1) ** 6, BIG ** 8)))

    def test_wrong(self):
        all_rates = (BadRates, wrong_rates())
        self.each_refused(rung_weights, (PAIR,), [all_rates])
        self.each_refused(mean_back, (PAIR,), [all_rates])
        self.each_refused(first_backs, (PAIR, 3), [all_rates, (BadNumber, wrong_numbers(0, 8))])
        self.each_refused(first_backs, (some_rates(random.Random(1), 5), 8), [all_rates, (BadNumber, wrong_numbers(0, 8))])


if __name__ == "__main__":
    unittest.main()
