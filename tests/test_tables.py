import random
import unittest
from fractions import Fraction

from rungshare.errors import BadFraction, BadLadder, BadNumber, BadTable
from rungshare.ladders import row_of
from rungshare.tables import are_alike, corner, need_table, power_of, table_ladder, table_of
from samples import BIG, BIGGER, Case, frac, fracs, is_open, ladders, last_of, some_table, told, worth, worths
from samples import wrong_above, wrong_ladders, wrong_numbers, wrong_tables

PLAIN = (fracs(1), fracs(2, 3), fracs(4))


def model_square(table):
    """The table as a list of rows of Fractions."""
    lower, middle, upper = [worths(part) for part in table]
    many = len(middle)
    square = [[Fraction(0)] * many for _ in range(many)]
    for k in range(many):
        square[k][k] = middle[k]
    for k in range(many - 1):
        square[k][k + 1] = upper[k]
        square[k + 1][k] = lower[k]
    return square


def model_power(table, number):
    square = model_square(table)
    many = len(square)
    power = [[Fraction(int(i == j)) for j in range(many)] for i in range(many)]
    for _ in range(number):
        power = [[sum([power[i][k] * square[k][j] for k in range(many)]) for j in range(many)] for i in range(many)]
    return power


def some_tables(seed, rounds=4):
    r = random.Random(seed)
    return [some_table(r, many) for many in range(1, 6) for _ in range(rounds)]


class Tables(Case):

    def test_need(self):
        for table in some_tables(201) + [PLAIN, ((), fracs(0), ()), (fracs(-1), fracs(0, 0), fracs(-2))]:
            self.assertIs(need_table(table), table)
        self.assertIs(need_table((fracs(*[-1] * 4), fracs(*[0] * 5), fracs(*[-2] * 4)))[0][0][0], -1)
        self.each_refused(need_table, (PLAIN,), [(BadTable, wrong_tables())])

    def test_known(self):
        self.same(table_of((frac(5), fracs(7), ())), ((), fracs(7), ()))
        self.same(table_of((frac(5), fracs(7), fracs(3))), ((), fracs(7), ()))
        self.same(table_of((frac(5), fracs(7), fracs(0))), ((), fracs(7), ()))
        self.same(table_of((frac(5), fracs(7, 8), fracs(3))), (fracs(3), fracs(7, 8), fracs(1)))
        self.same(table_of((frac(5), fracs(7, 8), fracs(3, 4))), (fracs(3), fracs(7, 8), fracs(1)))
        self.same(power_of(PLAIN, 0), (fracs(1, 0), fracs(0, 1)))
        self.same(power_of(PLAIN, 1), (fracs(2, 4), fracs(1, 3)))
        self.same(power_of(PLAIN, 2), (fracs(8, 20), fracs(5, 13)))
        self.same(corner(PLAIN, 2), frac(8))
        self.same(table_ladder(frac(1, 2), PLAIN), (frac(1, 2), fracs(2, 3), fracs(4, 0)))
        self.same(table_ladder(frac(2), ((), fracs(7), ())), (frac(2), fracs(7), fracs(0)))
        self.same(table_ladder(frac(1), (fracs(-2), fracs(0, 0), fracs((-1, 2)))), (frac(1), fracs(0, 0), fracs(1, 0)))

    def test_powers(self):
        for table in some_tables(202, 2):
            for number in range(13):
                wanted = tuple([told(row) for row in model_power(table, number)])
                self.same(self.twice(power_of, table, number), wanted)
                self.same(self.twice(corner, table, number), wanted[0][0])

    def test_ladders(self):
        for ladder in ladders(203):
            if not ladder[1]:
                self.assertIs(self.refused(BadLadder, ladder, table_of, ladder), ladder)
                continue
            table = self.twice(table_of, ladder)
            lower, middle, upper = need_table(table)
            self.same(middle, ladder[1])
            self.same(lower, ladder[2][:len(middle) - 1])
            self.same(upper, fracs(*[1] * (len(middle) - 1)))
            last = last_of(ladder)
            row = row_of(ladder, last)
            for number in range(last + 1):
                if number < 2 * len(middle) or not is_open(ladder):
                    self.same(frac(worth(ladder[0]) * worth(corner(table, number))), row[number])
            if not is_open(ladder):
                self.same(table_ladder(ladder[0], table), ladder)

    def test_tables_of_ladders(self):
        for table in some_tables(204):
            lower, middle, upper = table
            ladder = self.twice(table_ladder, frac(3, 2), table)
            products = [a * b for a, b in zip(worths(lower), worths(upper))]
            self.same(ladder, (frac(3, 2), middle, told(products + [Fraction(0)])))
            row = row_of(ladder, 8)
            for number in range(9):
                self.same(frac(Fraction(3, 2) * worth(corner(table, number))), row[number])
            self.assertIs(are_alike(table, table_of(ladder)), True)

    def test_alike(self):
        for table in some_tables(205):
            lower, middle, upper = table
            self.assertIs(self.twice(are_alike, table, (upper, middle, lower)), True)
            scaled = (told([part * -3 for part in worths(lower)]), middle, told([part / -3 for part in worths(upper)]))
            self.assertIs(self.twice(are_alike, table, scaled), True)
            for place in range(len(middle)):
                other = (lower, middle[:place] + (frac(worth(middle[place]) + 1),) + middle[place + 1:], upper)
                self.assertIs(are_alike(table, other), False)
            for place in range(len(lower)):
                other = (lower[:place] + (frac(worth(lower[place]) * 2),) + lower[place + 1:], middle, upper)
                self.assertIs(are_alike(table, other), False)
            self.assertIs(are_alike(table, (lower[:-1], middle[:-1], upper[:-1])) if lower else False, False)
        # The corners 0 to 3 are the same, the next one is not.
        one = (fracs(1, 1), fracs(0, 0, 5), fracs(1, 1))
        self.assertEqual([corner(one, k) for k in range(4)], [corner((fracs(1), fracs(0, 0), fracs(1)), k) for k in range(4)])
        self.assertIs(are_alike(one, (fracs(1), fracs(0, 0), fracs(1))), False)
        self.assertIs(are_alike((fracs(1), fracs(0, 0), fracs(1)), one), False)

    def test_many_figures(self):
        table = (fracs(BIG, -BIGGER, (-1, BIG), BIG), fracs(BIG, (1, BIG), -BIG, BIGGER, 0),
                 fracs(BIG, (-1, BIGGER), -BIG, BIGGER))
        for number in (0, 5, 12):
            self.same(power_of(table, number), tuple([told(row) for row in model_power(table, number)]))
            self.same(corner(table, number), frac(model_power(table, number)[0][0]))

    def test_wrong(self):
        tables, numbers = (BadTable, wrong_tables()), (BadNumber, wrong_numbers(0, 12))
        self.each_refused(power_of, (PLAIN, 3), [tables, numbers])
        self.each_refused(corner, (PLAIN, 3), [tables, numbers])
        self.each_refused(table_ladder, (frac(1), PLAIN), [(BadFraction, wrong_above()), tables])
        self.each_refused(are_alike, (PLAIN, PLAIN), [tables, tables])
        without = [(frac(1), (), ()), (frac(BIG), (), ())]
        self.each_refused(table_of, ((frac(1), fracs(1), ()),), [(BadLadder, wrong_ladders() + without)])


if __name__ == "__main__":
    unittest.main()
