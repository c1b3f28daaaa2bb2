import random
import unittest
from fractions import Fraction
from itertools import permutations

from rungshare.errors import BadNumber, BadRow
from rungshare.ladders import norms, row_of, rung_polys
from rungshare.squares import shifted_of, square_of
from samples import BIG, BIGGER, Case, at, frac, fracs, is_open, ladders, last_of, some_fraction, worth, worths
from samples import wrong_numbers, wrong_rows


def model_determinant(rows):
    whole = Fraction(0)
    for order in permutations(range(len(rows))):
        part = Fraction(1)
        for i, j in enumerate(order):
            part *= rows[i][j]
        crossed = sum([1 for i in range(len(order)) for j in range(i) if order[j] > order[i]])
        whole += part if crossed % 2 == 0 else -part
    return whole


def model_square(row, number, shift):
    row = worths(row)
    return frac(model_determinant([[row[i + j + shift] for j in range(number + 1)] for i in range(number + 1)]))


class Squares(Case):

    def test_known(self):
        self.same(square_of(fracs(3), 0), frac(3))
        self.same(square_of(fracs(1, 2, 3), 1), frac(-1))
        self.same(shifted_of(fracs(1, 2), 0), frac(2))
        self.same(shifted_of(fracs(1, 2, 3, 4), 1), frac(-1))
        self.same(square_of(fracs(1, 0, 1, 0, 2, 0, 5, 0, 14), 4), frac(1))
        self.same(shifted_of(fracs(1, 0, 1, 0, 2, 0, 5, 0, 14), 3), frac(1))
        self.same(shifted_of(fracs(1, 0, 1, 0, 2, 0, 5, 0, 14), 2), frac(0))
        self.same(shifted_of(fracs(1, 1, 2, 5, 14, 42, 132, 429, 1430), 3), frac(1))
        # The first pivots are nought.
        self.same(shifted_of(fracs(1, 0, 1, 0), 1), frac(-1))
        self.same(square_of(fracs(1, 1, 1, 0, 0), 2), frac(-1))
        self.same(shifted_of(fracs(1, 0, 0, 0, 0, 1, 0, 0), 2), frac(0))
        self.same(shifted_of(fracs(1, 0, 0, 2, 0, 0), 2), frac(-8))

    def test_by_all_orders(self):
        r = random.Random(121)
        for _ in range(80):
            row = fracs(r.randint(1, 3)) + tuple([r.choice([some_fraction(r), frac(0), frac(0), frac(1)])
                                                  for _ in range(r.randint(0, 8))])
            last = len(row) - 1
            for number in range(last // 2 + 1):
                self.same(self.twice(square_of, row, number), model_square(row, number, 0))
            for number in range((last + 1) // 2):
                self.same(self.twice(shifted_of, row, number), model_square(row, number, 1))

    def test_numbers(self):
        for many in range(1, 10):
            row, last = fracs(*range(1, many + 1)), many - 1
            for number in range(6):
                if 2 * number > last:
                    self.assertIs(self.refused(BadNumber, number, square_of, row, number), number)
                if 2 * number >= last:
                    self.assertIs(self.refused(BadNumber, number, shifted_of, row, number), number)

    def test_facts(self):
        for ladder in ladders(122, 4):
            last = last_of(ladder)
            row, found = row_of(ladder, last), worths(norms(ladder))
            polys = [worths(poly) for poly in rung_polys(ladder)]
            product = Fraction(1)
            for number in range(5):
                product *= found[number] if number < len(found) else 0
                if 2 * number <= last and (number < len(found) or not is_open(ladder)):
                    self.same(square_of(row, number), frac(product))
                if 2 * number < last and number + 1 < len(polys):
                    sign = 1 if number % 2 else -1
                    self.same(shifted_of(row, number), frac(sign * product * at(polys[number + 1], 0)))
                elif 2 * number < last and not is_open(ladder):
                    self.same(shifted_of(row, number), frac(0))

    def test_ended_ones(self):
        ladder = (frac(2), fracs(1, 3), fracs(4, 0))
        row = row_of(ladder, 8)
        self.assertNotEqual(square_of(row, 1), frac(0))
        self.assertNotEqual(shifted_of(row, 1), frac(0))
        for number in (2, 3, 4):
            self.same(square_of(row, number), frac(0))
        for number in (2, 3):
            self.same(shifted_of(row, number), frac(0))

    def test_many_figures(self):
        row = fracs(BIG, (-1, BIG), (BIGGER, BIG), -BIG, BIGGER, (1, BIGGER), 0, BIG, (BIG, 8))
        self.same(square_of(row, 4), model_square(row, 4, 0))
        self.same(shifted_of(row, 3), model_square(row, 3, 1))
        self.assertNotEqual(worth(square_of(row, 4)), 0)

    def test_wrong(self):
        rows = (BadRow, wrong_rows())
        self.each_refused(square_of, (fracs(1, 2, 3), 1), [rows, (BadNumber, wrong_numbers(0, 1))])
        self.each_refused(shifted_of, (fracs(1, 2, 3), 0), [rows, (BadNumber, wrong_numbers(0, 0))])
        for number in wrong_numbers(1, 0) + [0]:
            self.assertIs(self.refused(BadNumber, number, shifted_of, fracs(1), number), number)


if __name__ == "__main__":
    unittest.main()
