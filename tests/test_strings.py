import random
import unittest
from fractions import Fraction

from rungshare.errors import BadFraction, BadString, TooMany
from rungshare.polys import worth_at
from rungshare.signs import rational_roots, root_count, roots_in
from rungshare.strings import answer_at, joined_strings, need_string, shape_at, string_polys
from samples import BIG, BIGGER, Case, add, frac, fracs, mul, poly_told, some_fraction, some_string, told, worth, worths
from samples import wrong_fractions, wrong_strings

PAIR = (fracs(1, 1), fracs(1, 1))


def model_shape(string, mark):
    """The shape, by the words of the document, as pairs of Fractions."""
    height, slant, mark, found = Fraction(0), Fraction(1), worth(mark), []
    for gap, bead in zip(worths(string[0]), worths(string[1])):
        height = height + gap * slant
        slant = slant - mark * bead * height
        found.append((height, slant))
    return found


def model_polys(string):
    """The pair of lists of Fractions."""
    height, slant = [], [Fraction(1)]
    for gap, bead in zip(worths(string[0]), worths(string[1])):
        height = add(height, mul([gap], slant))
        slant = add(slant, mul([Fraction(0), -bead], height))
    return (height, slant)


def some_strings(seed, rounds=4):
    r = random.Random(seed)
    return [some_string(r, many) for many in range(1, 6) for _ in range(rounds)]


class Strings(Case):

    def test_need(self):
        for string in some_strings(291):
            self.assertIs(need_string(string), string)
        self.each_refused(need_string, (PAIR,), [(BadString, wrong_strings())])

    def test_known(self):
        self.same(shape_at(PAIR, frac(0)), (fracs(1, 1), fracs(2, 1)))
        self.same(shape_at(PAIR, frac(1)), (fracs(1, 0), fracs(1, -1)))
        self.same(shape_at(PAIR, frac(-1)), (fracs(1, 2), fracs(3, 5)))
        self.same(string_polys(PAIR), (fracs(2, -1), fracs(1, -3, 1)))
        self.same(string_polys((fracs(2), fracs(3))), (fracs(2), fracs(1, -6)))
        self.same(answer_at(PAIR, frac(1)), frac(-1))
        self.same(answer_at(PAIR, frac(2)), frac(0))
        self.same(answer_at((fracs(2), fracs(3)), frac(1, 6)), None)
        self.same(answer_at((fracs(2), fracs(3)), frac(1, 12)), frac(4))
        self.same(joined_strings(PAIR, (fracs(5), fracs(7))), (fracs(1, 1, 5), fracs(1, 1, 7)))

    def test_shapes(self):
        r = random.Random(292)
        for string in some_strings(292):
            height, slant = self.twice(string_polys, string)
            self.same((height, slant), tuple([poly_told(poly) for poly in model_polys(string)]))
            self.assertEqual((len(height), len(slant)), (len(string[0]), len(string[0]) + 1))
            for mark in [frac(0), frac(1), frac(-1)] + [some_fraction(r) for _ in range(4)]:
                shape = self.twice(shape_at, string, mark)
                self.same(shape, tuple([told(pair) for pair in model_shape(string, mark)]))
                self.same(shape[-1], (worth_at(height, mark), worth_at(slant, mark)))
                answer = self.twice(answer_at, string, mark)
                if shape[-1][1] == (0, 1):
                    self.assertIs(answer, None)
                else:
                    self.same(answer, frac(worth(shape[-1][0]) / worth(shape[-1][1])))
            self.same((height[0], slant[0]), (frac(sum(worths(string[0]))), frac(1)))

    def test_tones(self):
        for string in some_strings(293):
            height, slant = string_polys(string)
            self.assertEqual(root_count(slant), len(string[0]))
            self.assertEqual(roots_in(slant, frac(-10 ** 9), frac(0)), 0)
            for tone in rational_roots(slant):
                self.assertIs(answer_at(string, tone), None)
            if len(height) > 1:
                self.assertEqual(root_count(height), len(height) - 1)

    def test_joined(self):
        for one in some_strings(294, 2):
            for other in some_strings(295, 1):
                many = len(one[0]) + len(other[0])
                if many > 5:
                    self.refused(TooMany, 5, joined_strings, one, other)
                    continue
                new = self.twice(joined_strings, one, other)
                self.same(need_string(new), (one[0] + other[0], one[1] + other[1]))
                self.same(shape_at(new, frac(2, 3))[:len(one[0])], shape_at(one, frac(2, 3)))

    def test_many_figures(self):
        string = (fracs(BIG, (1, BIG), BIGGER, (BIGGER, BIG), 1), fracs((1, BIGGER), BIG, (2, BIG), BIGGER, BIG))
        self.same(string_polys(string), tuple([poly_told(poly) for poly in model_polys(string)]))
        for mark in (frac(BIG), frac(-1, BIG), frac(BIGGER, BIG)):
            self.same(shape_at(string, mark), tuple([told(pair) for pair in model_shape(string, mark)]))

    def test_wrong(self):
        strings, marks = (BadString, wrong_strings()), (BadFraction, wrong_fractions())
        self.each_refused(shape_at, (PAIR, frac(1)), [strings, marks])
        self.each_refused(answer_at, (PAIR, frac(1)), [strings, marks])
        self.each_refused(string_polys, (PAIR,), [strings])
        self.each_refused(joined_strings, (PAIR, PAIR), [strings, strings])


if __name__ == "__main__":
    unittest.main()
