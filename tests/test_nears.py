import random
import unittest

from rungshare.errors import BadLadder, BadNumber, BadPoly
from rungshare.ladders import norms, row_of, rung_polys
from rungshare.nears import near_fractions, series
from samples import BIG, BIGGER, Case, add, frac, fracs, from_roots, is_open, ladders, last_of, mul, poly_told
from samples import some_fraction, told, worth, worths, wrong_ladders, wrong_numbers, wrong_polys

LADDER = (frac(2), fracs(1, (1, 2)), fracs(3))


def model_series(top, bottom, last):
    """By the words of the document: for each E, from the highest one on."""
    top, bottom, found = worths(top), worths(bottom), []
    for power in range(len(bottom) - 2, len(bottom) - 3 - last, -1):
        wanted = top[power] if 0 <= power < len(top) else 0
        known = sum([bottom[i] * found[i - 1 - power] for i in range(len(bottom) - 1) if i - 1 - power >= 0])
        found.append((wanted - known) / bottom[-1])
    return told(found[:last + 1])


class Nears(Case):

    def test_known(self):
        self.same(near_fractions((frac(5), (), ())), (((), fracs(1)),))
        self.same(near_fractions((frac(5), fracs(3), ())), (((), fracs(1)), (fracs(5), fracs(-3, 1))))
        wanted = (((), fracs(1)), (fracs(2), fracs(-1, 1)), (fracs(-1, 2), fracs((-5, 2), (-3, 2), 1)))
        self.same(near_fractions(LADDER), wanted)
        self.same(near_fractions((frac(2), fracs(1, (1, 2)), fracs(3, 0))), wanted)

    def test_near_fractions(self):
        for ladder in ladders(81, 3):
            total, levels, steps = ladder
            near = self.twice(near_fractions, ladder)
            self.same(tuple([bottom for _, bottom in near]), rung_polys(ladder))
            tops = [worths(top) for top, _ in near]
            self.assertEqual(tops[0], [])
            for k, top in enumerate(tops[1:], 1):
                self.assertEqual(len(top), k)
                self.assertEqual(top[-1], worth(total))
            for k in range(1, len(levels)):
                wanted = add(mul([-worth(levels[k]), worth((1, 1))], tops[k]), mul([-worth(steps[k - 1])], tops[k - 1]))
                self.assertEqual(tops[k + 1], wanted)

    def test_crossed_products(self):
        for ladder in ladders(82, 3):
            near = [(worths(top), worths(bottom)) for top, bottom in near_fractions(ladder)]
            found = norms(ladder)
            for k in range(len(near) - 1):
                crossed = add(mul(near[k + 1][0], near[k][1]), [-part for part in mul(near[k][0], near[k + 1][1])])
                self.same(poly_told(crossed), (found[k],))

    def test_series(self):
        self.same(series(fracs(1), fracs(-2, 1), 4), fracs(1, 2, 4, 8, 16))
        self.same(series((), fracs(7), 8), fracs(*[0] * 9))
        self.same(series((), fracs(1, 2, 3), 0), fracs(0))
        self.same(series(fracs(3), fracs(0, 0, 2), 3), fracs(0, (3, 2), 0, 0))
        self.same(series(fracs(1, 1), fracs(-1, -1, 1), 5), fracs(1, 2, 3, 5, 8, 13))
        self.same(series(fracs(1), fracs(*[0] * 11 + [-1]), 8), fracs(*[0] * 9))
        self.same(series(fracs(0, 0, 6), fracs(*[0] * 11 + [-1]), 8), fracs(*[0] * 8 + [-6]))

    def test_series_by_its_words(self):
        r = random.Random(83)
        for _ in range(60):
            degree = r.randint(0, 11)
            bottom = told(worths([some_fraction(r) for _ in range(degree)]) + [r.choice([1, -2, worth((3, 5))])])
            top = poly_told(worths([some_fraction(r) for _ in range(r.randint(0, degree))]))
            last = r.randint(0, 8)
            self.same(self.twice(series, top, bottom, last), model_series(top, bottom, last))

    def test_series_of_near_fractions(self):
        for ladder in ladders(84, 3):
            row = row_of(ladder, last_of(ladder))
            near = near_fractions(ladder)
            for k, (top, bottom) in enumerate(near):
                last = min(2 * k - 1, len(row) - 1)
                if last >= 0:
                    self.same(series(top, bottom, last), row[:last + 1])
            if not is_open(ladder):
                self.same(series(*near[-1], 8), row)

    def test_many_figures(self):
        ladder = (frac(1, BIG), fracs(-BIG, (BIGGER, BIG), BIG), fracs((1, BIG), BIG, 0))
        top, bottom = near_fractions(ladder)[-1]
        self.same(series(top, bottom, 8), row_of(ladder, 8))

    def test_degrees(self):
        for many in range(1, 12):
            bottom = from_roots(*range(many - 1))
            for more in range(many, 13):
                top = fracs(*[1] * more)
                self.assertIs(self.refused(BadPoly, top, series, top, bottom, 3), top)
                self.assertIs(self.refused(BadPoly, top, series, top, bottom, None), top)
                self.refused(BadPoly, (), series, top, (), 3)
                self.refused(BadPoly, None, series, top, None, 9)
            if many > 1:
                self.assertEqual(len(series(fracs(*[1] * (many - 1)), bottom, 3)), 4)

    def test_wrong(self):
        self.each_refused(near_fractions, (LADDER,), [(BadLadder, wrong_ladders())])
        polys, bottoms = (BadPoly, wrong_polys()), (BadPoly, wrong_polys() + [()])
        self.each_refused(series, (fracs(1), fracs(1, 2), 3), [polys, bottoms, (BadNumber, wrong_numbers(0, 8))])


if __name__ == "__main__":
    unittest.main()
