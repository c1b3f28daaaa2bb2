import random
import unittest
from fractions import Fraction

from rungshare.errors import BadNumber, BadPoly, BadRow, NoShare
from rungshare.fewest import check_root_rule, fewest_rule, root_rule
from rungshare.ladders import row_of, rung_polys
from rungshare.rows import moments
from rungshare.rowshares import ladder_of, row_paper
from rungshare.rules import exact_to, spread_of
from rungshare.signs import rational_roots
from samples import BIG, BIGGER, Case, at, frac, fracs, from_roots, is_open, ladders, last_of, mul, poly_told
from samples import rows_of_any_kind, some_fraction, some_open, some_share, told, worth, worths, wrong_numbers, wrong_polys
from samples import wrong_rows

PLAIN = fracs(1, 0, 1, 0, 3)


def rests(poly, by):
    """The rest of a list of Fractions by another one, whose last one is 1, as a list as long as its degree."""
    rest = list(poly) + [Fraction(0)] * len(by)
    while len(rest) >= len(by):
        part = rest.pop()
        for k in range(1, len(by)):
            rest[-k] -= part * by[-k - 1]
    return rest


def model_root_sum(poly, other):
    """The sum of the worths of other at all roots of poly: the trace of multiplying by it."""
    degree, whole = len(poly) - 1, Fraction(0)
    for k in range(degree):
        whole += rests(mul([Fraction(0)] * k + [Fraction(1)], other), poly)[k]
    return whole


def rows_with_numbers(seed):
    """Rows of shares with all numbers for which they tell a rule."""
    found = []
    for ladder in ladders(seed):
        row = row_of(ladder, last_of(ladder))
        for number in range(1, len(row) // 2 + 1):
            if number <= len(ladder[1]):
                found.append((row, number))
                found.append((row[:2 * number], number))
    return found


class Fewest(Case):

    def test_known(self):
        self.same(fewest_rule(PLAIN, 1), ((frac(0), frac(1)),))
        self.same(fewest_rule(PLAIN, 2), ((frac(-1), frac(1, 2)), (frac(1), frac(1, 2))))
        self.same(root_rule(PLAIN, 1), (fracs(0, 1), fracs(1)))
        self.same(root_rule(PLAIN, 2), (fracs(-1, 0, 1), fracs((1, 2))))
        self.same(fewest_rule(fracs(1, 0, 2, 0), 2), None)
        self.same(root_rule(fracs(1, 0, 2, 0), 2), (fracs(-2, 0, 1), fracs((1, 2))))
        self.same(root_rule(fracs(3, 0, 1, 1), 2), (fracs((-1, 3), -1, 1), fracs((15, 7), (-9, 7))))
        self.assertIs(check_root_rule(PLAIN, 2, fracs(-1, 0, 1), fracs((1, 2))), True)
        self.assertIs(check_root_rule(PLAIN, 1, fracs(-1, 0, 1), fracs((1, 2))), False)

    def test_root_rules(self):
        for row, number in rows_with_numbers(341):
            poly, parts = self.twice(root_rule, row, number)
            self.same(poly, rung_polys(ladder_of(row))[number])
            self.assertLess(len(parts), len(poly))
            self.assertIs(self.twice(check_root_rule, row, number, poly, parts), True)
            # By its root sums it leads to all moments up to twice the number less 1.
            power = worths(parts)
            for k in range(2 * number):
                self.assertEqual(model_root_sum(worths(poly), power), worth(row[k]))
                power = mul([Fraction(0), Fraction(1)], power)

    def test_fewest(self):
        seen = {}
        for row, number in rows_with_numbers(342):
            poly, parts = root_rule(row, number)
            roots = rational_roots(poly)
            rule = self.twice(fewest_rule, row, number)
            if len(roots) < number:
                self.assertIs(rule, None)
                seen[None] = True
                continue
            seen[number] = True
            self.same(rule, tuple([(root, frac(at(worths(parts), worth(root)))) for root in roots]))
            self.assertTrue(all([part[0] > 0 for _, part in rule]))
            self.assertIs(exact_to(row, rule, 2 * number - 1), True)
            ladder = ladder_of(row)
            if is_open(ladder) or len(ladder[1]) > number:
                self.same(spread_of(row, rule), 2 * number - 1)
        self.assertEqual(len(seen), 3)

    def test_roots_that_are_fractions(self):
        r = random.Random(343)
        for many in range(1, 5):
            for _ in range(5):
                share = some_share(r, many)
                for top in range(2 * many - 1, 9):
                    row = moments(share, top)
                    self.same(self.twice(fewest_rule, row, many), share)
                    for number in range(1, many):
                        rule = fewest_rule(row, number)
                        if rule is not None:
                            self.same(spread_of(row, rule), 2 * number - 1)
                    poly, parts = root_rule(row, many)
                    self.same(poly, from_roots(*[worth(number) for number, _ in share]))
                    for number, weight in share:
                        self.assertEqual(at(worths(parts), worth(number)), worth(weight))

    def test_near_ones(self):
        r = random.Random(344)
        for row, number in rows_with_numbers(345):
            poly, parts = [worths(one) for one in root_rule(row, number)]
            near = [(poly[:-1] + [Fraction(2)], parts), ([2 * part for part in poly], parts), (poly, []), ([], parts),
                    (poly, [-part for part in parts]), (parts, poly), (poly, mul(poly, parts)),
                    (mul(poly, poly), parts), (mul(poly, [Fraction(1), Fraction(1)]), mul(parts, [Fraction(1), Fraction(1)]))]
            # Of as high a degree as the other one: the same worth at each root.
            near.append((poly, [a + b for a, b in zip(poly, parts + [Fraction(0)] * len(poly))]))
            for _ in range(3):
                one, other = list(poly), parts + [Fraction(0)] * (number - len(parts))
                changed = r.choice([one, other])
                changed[r.randint(0, number - 1)] += Fraction(r.choice([1, -1]), r.choice([1, 10 ** 9]))
                near.append((one, other))
            for one, other in near:
                self.assertIs(check_root_rule(row, number, poly_told(one), poly_told(other)), False)
            self.assertIs(check_root_rule(row, number, poly_told(poly), poly_told(parts)), True)

    def test_roots_that_are_alike(self):
        # Twice the root 0, by a part of a half each: the sums would be right for the first moments.
        row = fracs(1, 0, 1, 0)
        self.assertIs(check_root_rule(row, 2, fracs(0, 0, 1), fracs((1, 2))), False)
        self.assertIs(check_root_rule(row, 2, fracs(1, -2, 1), fracs((1, 2))), False)
        self.assertIs(check_root_rule(row, 1, fracs(0, 1), fracs(1)), True)

    def test_too_many(self):
        for ladder in ladders(346):
            if is_open(ladder):
                continue
            row = row_of(ladder, 8)
            many = len(ladder[1])
            for number in range(1, 5):
                if number <= many:
                    self.same(root_rule(row, number)[0], rung_polys(ladder)[number])
                    continue
                self.refused(BadNumber, number, fewest_rule, row, number)
                self.refused(BadNumber, number, root_rule, row, number)
                self.refused(BadNumber, number, check_root_rule, row, number, fracs(0, 1), fracs(1))
                self.refused(BadPoly, None, check_root_rule, row, number, None, fracs(1))
                self.refused(BadPoly, None, check_root_rule, row, number, fracs(1), None)

    def test_no_share(self):
        kinds = {}
        for row in rows_of_any_kind(347, 30):
            most = len(row) // 2
            paper = row_paper(row)
            for number in range(-1, 6):
                if number < 1 or number > most:
                    for deed in (fewest_rule, root_rule):
                        self.assertIs(self.refused(BadNumber, number, deed, row, number), number)
                    self.refused(BadNumber, number, check_root_rule, row, number, None, None)
                elif paper[0] != "ladder":
                    kinds[paper[0]] = True
                    for deed in (fewest_rule, root_rule):
                        self.refused(NoShare, paper, deed, row, number)
                    self.refused(NoShare, paper, check_root_rule, row, number, (), ())
                    self.refused(BadPoly, None, check_root_rule, row, number, (), None)
        self.assertEqual(sorted(kinds), ["rest", "square"])

    def test_just_as_many(self):
        r = random.Random(348)
        for many in range(1, 5):
            ladder = some_open(r, many, many - 1)
            row = row_of(ladder, 2 * many - 1)
            self.assertEqual(len(row), 2 * many)
            self.same(root_rule(row, many)[0], rung_polys(ladder)[-1])
            self.refused(BadNumber, many + 1, root_rule, row, many + 1)
        self.refused(BadNumber, 1, fewest_rule, fracs(1), 1)

    def test_many_figures(self):
        share = tuple([(number, frac(BIG - k, BIGGER)) for k, number in enumerate(fracs(-BIG, (1, BIG), BIGGER, BIG))])
        row = moments(share, 8)
        self.same(fewest_rule(row, 4), share)
        ladder = (frac(BIG), fracs(BIG, (1, BIG), -BIGGER, (BIGGER, BIG)), fracs(BIG, (1, BIGGER), BIGGER, (1, BIG)))
        row = row_of(ladder, 8)
        for number in range(1, 5):
            poly, parts = root_rule(row, number)
            self.assertIs(check_root_rule(row, number, poly, parts), True)
            self.assertEqual(model_root_sum(worths(poly), worths(parts)), BIG)

    def test_wrong(self):
        rows, numbers = (BadRow, wrong_rows()), (BadNumber, wrong_numbers(1, 2))
        polys = (BadPoly, wrong_polys())
        self.each_refused(fewest_rule, (PLAIN, 2), [rows, numbers])
        self.each_refused(root_rule, (PLAIN, 2), [rows, numbers])
        self.each_refused(check_root_rule, (PLAIN, 2, fracs(-1, 0, 1), fracs(1)), [rows, numbers, polys, polys])


if __name__ == "__main__":
    unittest.main()
