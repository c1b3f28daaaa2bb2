import random
import unittest
from fractions import Fraction

from rungshare.errors import BadFraction, BadNumber
from rungshare.ratios import is_less, less, need_fraction, over, plus, power, ratio, times
from samples import ANY, BIG, BIGGER, Case, frac, model_is_fraction, some_fraction, worth, wrong_fractions
from samples import wrong_integers, wrong_numbers

GOOD = (3, 4)


class Ratios(Case):

    def test_need_fraction(self):
        for good in [(0, 1), (1, 1), (-1, 1), (-3, 7), (BIG, 1), (-1, BIG), (BIGGER, BIG), (10 ** 200, 3)]:
            self.assertIs(need_fraction(good), good)
        for thing in ANY:
            if model_is_fraction(thing):
                self.assertIs(need_fraction(thing), thing)

    def test_ratio(self):
        self.same(ratio(0, 5), (0, 1))
        self.same(ratio(0, -5), (0, 1))
        self.same(ratio(6, 4), (3, 2))
        self.same(ratio(6, -4), (-3, 2))
        self.same(ratio(-6, -4), (3, 2))
        self.same(ratio(-6, 4), (-3, 2))
        self.same(ratio(7, 1), (7, 1))
        self.same(ratio(BIG, -BIG), (-1, 1))
        self.same(ratio(-BIG, BIGGER), frac(-BIG, BIGGER))
        self.same(ratio(10 ** 500, 10 ** 498 * 3), (100, 3))

    def test_ordinary(self):
        self.same(plus((1, 2), (1, 3)), (5, 6))
        self.same(plus((1, 2), (-1, 2)), (0, 1))
        self.same(less((1, 2), (1, 3)), (1, 6))
        self.same(less((1, 2), (1, 2)), (0, 1))
        self.same(times((2, 3), (3, 4)), (1, 2))
        self.same(times((0, 1), (-3, 4)), (0, 1))
        self.same(over((2, 3), (-4, 3)), (-1, 2))
        self.same(over((0, 1), (-4, 3)), (0, 1))
        self.same(power((-2, 3), 3), (-8, 27))
        self.same(power((-2, 3), 0), (1, 1))
        self.same(power((0, 1), 0), (1, 1))
        self.same(power((0, 1), 20), (0, 1))
        self.same(power((2, 1), 20), (1048576, 1))
        self.same(power((1, 3), 1), (1, 3))

    def test_is_less(self):
        self.assertIs(is_less((1, 3), (1, 2)), True)
        self.assertIs(is_less((1, 2), (1, 3)), False)
        self.assertIs(is_less((1, 2), (1, 2)), False)
        self.assertIs(is_less((-1, 2), (-1, 3)), True)
        self.assertIs(is_less((-1, 3), (-1, 2)), False)
        self.assertIs(is_less((-5, 1), (0, 1)), True)
        self.assertIs(is_less((0, 1), (1, BIG)), True)
        self.assertIs(is_less((BIG - 1, BIG), (BIG, BIG - 1)), True)

    def test_against_python(self):
        r = random.Random(5)
        some = [some_fraction(r) for _ in range(12)] + [(0, 1), (BIG, 8), (-8, BIG), frac(-BIG, BIGGER), (1, BIG)]
        for one in some:
            for number in (0, 1, 2, 7, 20):
                self.same(self.twice(power, one, number), frac(worth(one) ** number))
            for other in some:
                self.same(self.twice(plus, one, other), frac(worth(one) + worth(other)))
                self.same(self.twice(less, one, other), frac(worth(one) - worth(other)))
                self.same(self.twice(times, one, other), frac(worth(one) * worth(other)))
                self.assertIs(is_less(one, other), worth(one) < worth(other))
                if other != (0, 1):
                    self.same(self.twice(over, one, other), frac(worth(one) / worth(other)))

    def test_told_ones_passed_on(self):
        one = power((BIG, BIGGER), 20)
        self.same(over(times(one, one), one), one)
        self.same(less(plus(one, one), one), one)
        self.same(power(one, 2), times(one, one))
        self.same(power(power(one, 20), 0), (1, 1))
        self.assertEqual(Fraction(*one), Fraction(BIG, BIGGER) ** 20)

    def test_wrong(self):
        fractions = (BadFraction, wrong_fractions())
        self.each_refused(need_fraction, (GOOD,), [fractions])
        for deed in (plus, less, times, is_less):
            self.each_refused(deed, (GOOD, GOOD), [fractions, fractions])
        self.each_refused(over, (GOOD, GOOD), [fractions, (BadFraction, wrong_fractions() + [(0, 1)])])
        self.each_refused(power, (GOOD, 3), [fractions, (BadNumber, wrong_numbers(0, 20))])
        self.each_refused(ratio, (6, 4), [(BadNumber, wrong_integers()), (BadNumber, wrong_integers() + [0])])


if __name__ == "__main__":
    unittest.main()
