import random
import unittest
from fractions import Fraction

from rungshare.errors import BadNumber, BadRates, BadRung
from rungshare.rates import back_row, chances, is_closed, need_rates
from rungshare.rows import need_row
from rungshare.walks import walk_ladder
from rungshare.ladders import row_of
from samples import BIG, BIGGER, Case, frac, fracs, some_rates, told, worths, wrong_numbers, wrong_rates

HALF = frac(1, 2)
PAIR = ((HALF, HALF, frac(0)), (frac(1, 4), frac(1, 4), HALF))


def model_chances(rates, rung, steps):
    """The chances, each rung giving to its neighbours at each step."""
    here = [Fraction(int(k == rung)) for k in range(len(rates) + 1)]
    for _ in range(steps):
        after = [Fraction(0)] * len(here)
        after[-1] = here[-1]
        for k, rung_rates in enumerate(rates):
            up, stay, down = worths(rung_rates)
            after[k + 1] += up * here[k]
            after[k] += stay * here[k]
            if k > 0:
                after[k - 1] += down * here[k]
        here = after
    return told(here)


def rates_of_any_kind(seed, rounds=4):
    r = random.Random(seed)
    found = [(fracs(0, 1, 0),), (fracs(1, 0, 0),), (fracs((1, 3), (2, 3), 0),)]
    found += [(fracs(1, 0, 0), fracs(0, 0, 1)), (fracs(1, 0, 0), fracs((1, 2), 0, (1, 2)), fracs(1, 0, 0)[::-1])]
    for many in range(1, 6):
        for _ in range(rounds):
            found.append(some_rates(r, many))
            found.append(some_rates(r, many, True))
    return found


class Rates(Case):

    def test_need(self):
        for rates in rates_of_any_kind(261):
            self.assertIs(need_rates(rates), rates)
        self.each_refused(need_rates, (PAIR,), [(BadRates, wrong_rates())])

    def test_known(self):
        self.same(chances(PAIR, 0, 0), fracs(1, 0, 0))
        self.same(chances(PAIR, 1, 0), fracs(0, 1, 0))
        self.same(chances(PAIR, 0, 1), fracs((1, 2), (1, 2), 0))
        self.same(chances(PAIR, 0, 2), fracs((1, 2), (3, 8), (1, 8)))
        self.same(chances(PAIR, 1, 1), fracs((1, 2), (1, 4), (1, 4)))
        self.same(back_row(PAIR, 2), fracs(1, (1, 2), (1, 2)))
        self.same(chances((fracs(0, 1, 0),), 0, 12), fracs(1, 0))
        self.same(chances((fracs(1, 0, 0),), 0, 1), fracs(0, 1))
        self.same(chances((fracs(1, 0, 0),), 0, 12), fracs(0, 1))
        self.same(back_row((fracs(1, 0, 0),), 3), fracs(1, 0, 0, 0))
        self.assertIs(is_closed(PAIR), False)
        self.assertIs(is_closed((fracs(0, 1, 0),)), True)
        self.assertIs(is_closed((fracs(1, 0, 0),)), False)

    def test_chances(self):
        for rates in rates_of_any_kind(262):
            self.assertIs(self.twice(is_closed, rates), rates[-1][0] == (0, 1))
            for rung in range(len(rates)):
                for steps in range(13):
                    got = chances(rates, rung, steps)
                    self.same(got, model_chances(rates, rung, steps))
                    self.assertEqual(sum(worths(got)), 1)
                    if is_closed(rates):
                        self.same(got[-1], frac(0))
            self.twice(chances, rates, len(rates) - 1, 5)

    def test_back(self):
        for rates in rates_of_any_kind(263):
            for top in range(9):
                row = self.twice(back_row, rates, top)
                self.same(need_row(row), tuple([model_chances(rates, 0, k)[0] for k in range(top + 1)]))
            self.same(row, row_of(walk_ladder(rates), 8))

    def test_many_figures(self):
        rates = ((frac(1, BIG), frac(BIG - 1, BIG), frac(0)), (frac(1, BIGGER), frac(BIGGER - 2, BIGGER), frac(1, BIGGER)),
                 (frac(1, 3), frac(0), frac(2, 3)))
        self.same(chances(rates, 1, 12), model_chances(rates, 1, 12))
        self.same(back_row(rates, 8)[-1], model_chances(rates, 0, 8)[0])

    def test_wrong(self):
        all_rates = (BadRates, wrong_rates())
        self.each_refused(is_closed, (PAIR,), [all_rates])
        self.each_refused(chances, (PAIR, 1, 2), [all_rates, (BadRung, wrong_numbers(0, 1)),
                                                  (BadNumber, wrong_numbers(0, 12))])
        self.each_refused(back_row, (PAIR, 2), [all_rates, (BadNumber, wrong_numbers(0, 8))])
        for many in range(1, 6):
            rates = some_rates(random.Random(many), many)
            self.refused(BadRung, many, chances, rates, many, 0)


if __name__ == "__main__":
    unittest.main()
