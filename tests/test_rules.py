import random
import unittest
from fractions import Fraction

from rungshare.errors import BadNumber, BadPoints, BadRow, BadRule
from rungshare.rows import moments, sum_by
from rungshare.rowshares import is_of_share, ladder_of
from rungshare.rules import exact_to, need_rule, node_of, parts_for, rule_for, spread_of
from samples import BIG, BIGGER, Case, at, frac, fracs, from_roots, is_open, mul, rows_of_any_kind, some_fraction, some_numbers
from samples import some_share, told, worth, worths, wrong_numbers, wrong_points, wrong_rows, wrong_rules

PLAIN = fracs(1, 0, 1)
SIGNS = ((frac(-1), frac(1, 2)), (frac(1), frac(1, 2)))


def model_parts(row, points):
    """The parts by which the sums are exact, by clearing the table of powers."""
    points, many = worths(points), len(points)
    table = [[point ** k for point in points] + [worth(row[k])] for k in range(many)]
    for k in range(many):
        found = [i for i in range(k, many) if table[i][k] != 0][0]
        table[k], table[found] = table[found], table[k]
        table[k] = [part / table[k][k] for part in table[k]]
        for i in range(many):
            if i != k:
                table[i] = [one - table[i][k] * two for one, two in zip(table[i], table[k])]
    return told([line[-1] for line in table])


def model_sum(rule, number):
    return sum([worth(part) * worth(point) ** number for point, part in rule])


class Rules(Case):

    def test_need(self):
        for rule in [SIGNS, ((frac(0), frac(-1)),), tuple([(frac(k), frac(-k - 1)) for k in range(6)])]:
            self.assertIs(need_rule(rule), rule)
        self.each_refused(need_rule, (SIGNS,), [(BadRule, wrong_rules())])

    def test_known(self):
        self.same(node_of(fracs(3)), fracs(-3, 1))
        self.same(node_of(fracs(-1, 1)), fracs(-1, 0, 1))
        self.same(parts_for(PLAIN, fracs(-1, 1)), fracs((1, 2), (1, 2)))
        self.same(parts_for(PLAIN, fracs(-1, 0, 1)), fracs((1, 2), 0, (1, 2)))
        self.same(parts_for(PLAIN, fracs(0, 1)), fracs(1, 0))
        self.same(parts_for(PLAIN, fracs(1, 2)), fracs(2, -1))
        self.same(parts_for(fracs(5), fracs(7)), fracs(5))
        self.same(rule_for(PLAIN, fracs(-1, 0, 1)), SIGNS)
        self.same(rule_for(PLAIN, fracs(0, 1)), ((frac(0), frac(1)),))
        self.assertIs(exact_to(PLAIN, SIGNS, 2), True)
        self.same(spread_of(PLAIN, SIGNS), 2)
        self.same(spread_of(fracs(1, 0, 1, 0, 2), SIGNS), 3)
        self.same(spread_of(fracs(2, 0, 1), SIGNS), -1)
        self.same(spread_of(fracs(1, 1, 1), SIGNS), 0)
        # The moment after the first one that is not exact is of no use.
        self.same(spread_of(fracs(1, 1, 1), ((frac(-1), frac(1)),)), 0)
        self.assertIs(exact_to(fracs(1, 1, 1), ((frac(-1), frac(1)),), 2), False)

    def test_nodes(self):
        r = random.Random(331)
        for many in range(1, 7):
            for _ in range(4):
                points = some_numbers(r, many)
                self.same(self.twice(node_of, points), from_roots(*[worth(point) for point in points]))

    def test_parts(self):
        r = random.Random(332)
        noughts = 0
        for row in rows_of_any_kind(332, 40):
            for many in range(1, 7):
                points = some_numbers(r, many, -3, 3)
                if many > len(row):
                    self.assertIs(self.refused(BadPoints, points, parts_for, row, points), points)
                    self.assertIs(self.refused(BadPoints, points, rule_for, row, points), points)
                    continue
                parts = self.twice(parts_for, row, points)
                self.same(parts, model_parts(row, points))
                noughts += parts.count(frac(0))
                rule = self.twice(rule_for, row, points)
                self.same(need_rule(rule), tuple([pair for pair in zip(points, parts) if pair[1] != frac(0)]))
                for k in range(many):
                    # The sum of the polynomial that is 1 at this point, nought at all others.
                    others = from_roots(*[worth(point) for point in points[:k] + points[k + 1:]])
                    scale = at(worths(others), worth(points[k]))
                    one = told([part / scale for part in worths(others)])
                    self.same(parts[k], sum_by(row, one))
        self.assertGreater(noughts, 0)

    def test_exact(self):
        r = random.Random(333)
        spreads = {}
        for row in rows_of_any_kind(333, 30):
            last = len(row) - 1
            rules = [rule_for(row, some_numbers(r, min(many, len(row)), -3, 3)) for many in range(1, 7)]
            rules += [tuple(some_share(r, many)) for many in (1, 3, 6)]
            rules += [SIGNS, tuple([(point, some_fraction(r)) for point in some_numbers(r, 2)])]
            for rule in rules:
                if any([part == (0, 1) for _, part in rule]):
                    continue
                good = [model_sum(rule, k) == worth(row[k]) for k in range(last + 1)]
                spread = self.twice(spread_of, row, rule)
                self.same(spread, (good + [False]).index(False) - 1)
                spreads[spread] = True
                for number in range(last + 1):
                    self.assertIs(self.twice(exact_to, row, rule, number), all(good[:number + 1]))
                self.refused(BadNumber, last + 1, exact_to, row, rule, last + 1)
        self.assertGreater(len(spreads), 5)
        self.assertIn(-1, spreads)

    def test_exact_by_nodes(self):
        r = random.Random(334)
        far = 0
        for _ in range(40):
            share = some_share(r, r.randint(1, 4), -4, 4)
            row = moments(share, r.randint(4, 8))
            points = tuple(sorted({number for number, _ in share} | {some_fraction(r)}, key=worth))[:len(row)]
            if r.random() < 0.5:
                points = points[:3]
            many = len(points)
            rule, node = rule_for(row, points), worths(node_of(points))
            for number in range(many - 1, len(row)):
                sums = [sum([a * worth(row[k + j]) for k, a in enumerate(node)]) for j in range(number - many + 1)]
                self.assertIs(exact_to(row, rule, number), all([one == 0 for one in sums]))
                far += number >= many and all([one == 0 for one in sums])
            if is_of_share(row) and all([part[0] > 0 for _, part in rule]):
                ladder = ladder_of(row)
                if len(ladder[1]) > len(rule):
                    self.assertLessEqual(spread_of(row, rule), 2 * len(rule) - 1)
        self.assertGreater(far, 10)

    def test_all_of_a_share(self):
        r = random.Random(335)
        for many in range(1, 7):
            share = some_share(r, many)
            row = moments(share, 8)
            self.same(spread_of(row, share), 8)
            self.same(rule_for(row, tuple([number for number, _ in share])), share)
            self.assertIs(exact_to(row, share, 8), True)

    def test_many_figures(self):
        points = fracs(-BIG, (-1, BIG), 0, (1, BIGGER), BIGGER, BIG)
        row = fracs(BIG, (1, BIG), -BIG, BIGGER, (BIGGER, BIG), 0)
        self.same(parts_for(row, points), model_parts(row, points))
        self.same(spread_of(row, rule_for(row, points)), 5)

    def test_wrong(self):
        rows, points, rules = (BadRow, wrong_rows()), (BadPoints, wrong_points()), (BadRule, wrong_rules())
        self.each_refused(node_of, (fracs(1, 2),), [points])
        longer = (BadPoints, wrong_points() + [fracs(1, 2, 3, 4), fracs(*range(6))])
        self.each_refused(parts_for, (PLAIN, fracs(1, 2, 3)), [rows, longer])
        self.each_refused(rule_for, (PLAIN, fracs(1, 2, 3)), [rows, longer])
        self.each_refused(exact_to, (PLAIN, SIGNS, 1), [rows, rules, (BadNumber, wrong_numbers(0, 2))])
        self.each_refused(spread_of, (PLAIN, SIGNS), [rows, rules])


if __name__ == "__main__":
    unittest.main()
