import random
import unittest

from rungshare.chains import chain_ladder, chain_of, chain_row
from rungshare.errors import BadChain, BadShare, TooMany
from rungshare.ladders import is_ended
from rungshare.nears import near_fractions, series
from rungshare.polys import product
from rungshare.rows import moments
from rungshare.rowshares import is_of_share, ladder_of
from samples import BIG, BIGGER, Case, add, at, frac, fracs, from_roots, ladders, mul, poly_told, some_above, some_share
from samples import times_polys, worth, worths, wrong_polys, wrong_shares

FOUR = tuple([(frac(k), frac(1)) for k in range(4)])


class Chains(Case):

    def test_known(self):
        self.same(chain_row(fracs(1), fracs(-2, 1)), fracs(1, 2, 4))
        self.same(chain_ladder(fracs(1), fracs(-2, 1)), (frac(1), fracs(2), fracs(0)))
        self.same(chain_row(fracs(0, 2), fracs(-1, 0, 1)), fracs(2, 0, 2, 0, 2))
        self.same(chain_ladder(fracs(0, 2), fracs(-1, 0, 1)), (frac(2), fracs(0, 0), fracs(1, 0)))
        self.same(chain_ladder(fracs(0, -2), fracs(1, 0, -1)), (frac(2), fracs(0, 0), fracs(1, 0)))
        self.same(chain_of(((frac(1), frac(2)),)), (fracs(2), fracs(-1, 1)))
        self.same(chain_of(((frac(-1), frac(1)), (frac(1), frac(1)))), (fracs(0, 2), fracs(-1, 0, 1)))

    def test_of_no_share(self):
        for top, bottom in [(fracs(0, 1), fracs(1, 0, 1)), (fracs(1, 1), fracs(0, 0, 1)), (fracs(3, 1), fracs(-1, 0, 1)),
                            (fracs(-1), fracs(-2, 1)), (fracs(1), fracs(-1, 0, 1)), (fracs(1), fracs(0, 0, 1)),
                            (fracs(0, 0, 1), fracs(0, -1, 0, 1)), (fracs(0, 0, 0, 1), fracs(1, 0, 0, 0, 1))]:
            if (top, bottom) == (fracs(0, 0, 1), fracs(0, -1, 0, 1)):
                self.same(chain_ladder(top, bottom), (frac(1), fracs(0, 0), fracs(1, 0)))
            else:
                self.assertIs(self.twice(chain_ladder, top, bottom), None)

    def test_no_row(self):
        for top, bottom in [(fracs(-1), fracs(-2, 1)), (fracs(1), fracs(2, -1)), (fracs(1), fracs(0, 0, 1)),
                            (fracs(5, -1), fracs(1, 2, 3)), (fracs(1, 1), fracs(0, 0, 0, 0, 1))]:
            self.refused(BadChain, (top, bottom), chain_row, top, bottom)
            self.assertIs(chain_ladder(top, bottom), None)
        self.same(chain_row(fracs(0, 0, 0, 1), fracs(1, 0, 0, 0, 1)), fracs(1, 0, 0, 0, -1, 0, 0, 0, 1))

    def test_chains_of_shares(self):
        r = random.Random(91)
        for _ in range(40):
            share = some_share(r, r.randint(1, 4))
            top, bottom = self.twice(chain_of, share)
            many = len(share)
            self.same(bottom, from_roots(*[number for number, _ in share]))
            self.assertEqual(len(top), many)
            for number, weight in share:
                others = mul(worths(from_roots(*[other for other, _ in share if other != number])), [worth(weight)])
                self.assertEqual(at(worths(top), worth(number)), at(others, worth(number)))
            self.same(self.twice(chain_row, top, bottom), moments(share, 2 * many))
            ladder = self.twice(chain_ladder, top, bottom)
            self.same(ladder, ladder_of(moments(share, 2 * many)))
            self.same(near_fractions(ladder)[-1], (top, bottom))
            self.with_common_factor(r, top, bottom, ladder)

    def with_common_factor(self, r, top, bottom, ladder):
        for factor in [some_above(r), (-3, 2)]:
            self.same(chain_ladder(times_polys(top, (factor,)), times_polys(bottom, (factor,))), ladder)
        for factor in [fracs(7, 1), fracs(1, 0, 1), fracs(0, 0, -2), fracs(3, 1, 4, 1), bottom]:
            whole = times_polys(bottom, factor)
            if len(whole) <= 5:
                longer = times_polys(top, factor)
                self.same(chain_ladder(longer, whole), ladder)
                self.assertEqual(len(chain_row(longer, whole)), 2 * len(whole) - 1)

    def test_ladders(self):
        for ladder in ladders(92, 3):
            for top, bottom in near_fractions(ladder)[1:5]:
                found = chain_ladder(top, bottom)
                many = len(bottom) - 1
                self.same(found, (ladder[0], ladder[1][:many], ladder[2][:many - 1] + fracs(0)))

    def test_pairs_of_any_kind(self):
        r = random.Random(93)
        found = {True: 0, False: 0}
        for _ in range(300):
            degree = r.randint(1, 4)
            bottom = fracs(*[r.randint(-3, 3) for _ in range(degree)] + [r.choice([1, -2])])
            top = poly_told(worths(fracs(*[r.randint(-2, 3) for _ in range(r.randint(1, degree))])))
            if r.random() < 0.4:
                weights = [r.choice([-1, 0, 1, 2]) for _ in range(degree)]
                roots = r.sample(range(-4, 5), degree)
                bottom, whole = from_roots(*roots), []
                for root, weight in zip(roots, weights):
                    rest = worths(from_roots(*[other for other in roots if other != root]))
                    whole = add(whole, mul(rest, [worth((weight, 1))]))
                top = poly_told(whole)
            if top == ():
                continue
            ladder, row = chain_ladder(top, bottom), series(top, bottom, 2 * degree)
            wanted = row[0][0] > 0 and is_of_share(row)
            found[ladder is not None] += 1
            self.assertEqual(ladder is not None, wanted)
            if wanted:
                self.assertIs(is_ended(ladder), True)
                near_top, near_bottom = near_fractions(ladder)[-1]
                self.same(product(top, near_bottom), product(bottom, near_top))
        self.assertGreater(min(found.values()), 20)

    def test_many_figures(self):
        share = ((frac(-BIG), frac(1, BIG)), (frac(1, BIG), frac(BIG)), (frac(BIGGER), frac(BIGGER, BIG)),
                 (frac(BIG), frac(1)))
        top, bottom = chain_of(share)
        self.same(chain_row(top, bottom), moments(share, 8))
        self.same(chain_ladder(top, bottom), ladder_of(moments(share, 8)))
        self.assertEqual(len(chain_ladder(top, bottom)[1]), 4)

    def test_too_many(self):
        self.assertEqual(len(chain_of(FOUR)[1]), 5)
        for many in (5, 6):
            share = tuple([(frac(k), frac(1)) for k in range(many)])
            self.refused(TooMany, 4, chain_of, share)

    def test_wrong(self):
        self.each_refused(chain_of, (FOUR,), [(BadShare, wrong_shares())])
        good = (fracs(1, 1), fracs(-1, 0, 1))
        tops = wrong_polys() + [(), fracs(0, 0, 1), fracs(0, 0, 0, 0, 1), fracs(*[1] * 12)]
        bottoms = wrong_polys() + [(), fracs(1), fracs(1, 1), fracs(0, 0, 0, 0, 0, 1), fracs(*[1] * 12)]
        pairs = [(top, good[1]) for top in tops] + [(good[0], bottom) for bottom in bottoms]
        pairs += [(top, bottom) for top in tops[::7] for bottom in bottoms[::5]]
        for top, bottom in pairs:
            for deed in (chain_row, chain_ladder):
                pair = self.refused(BadChain, (top, bottom), deed, top, bottom)
                self.assertIs(pair[0], top)
                self.assertIs(pair[1], bottom)
        self.assertIsNot(chain_ladder(fracs(1), fracs(1, 1)), None)


if __name__ == "__main__":
    unittest.main()
