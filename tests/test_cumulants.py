import random
import unittest
from fractions import Fraction

from rungshare.cumulants import cumulant_by, cumulants_of, moment_by, row_of_cumulants
from rungshare.errors import BadCumulants, BadFraction, BadKind, BadNumber, BadRow
from rungshare.ladders import row_of
from rungshare.rows import need_row
from samples import BIG, BIGGER, Case, frac, fracs, rows_of_any_kind, some_above, some_fraction, told, worth, worths
from samples import wrong_above, wrong_cumulants, wrong_kinds, wrong_numbers, wrong_rows
from test_partings import KINDS, model_is, model_partings, model_sign

PARTINGS = {(kind, many): [parting for parting in model_partings(many) if model_is(kind, parting)]
            for kind in KINDS for many in range(9)}


def model_moment(kind, cumulants, many):
    """The sum over all partings of the product of those of a list of Fractions."""
    whole = Fraction(0)
    for parting in PARTINGS[kind, many]:
        part = Fraction(1)
        for block in parting:
            part *= cumulants[len(block) - 1]
        whole += part
    return whole


def model_cumulants(row, kind):
    found = []
    for number in range(1, len(row)):
        # The parting into one block alone has the last cumulant.
        without = model_moment(kind, found + [Fraction(0)], number)
        found.append(worth(row[number]) / worth(row[0]) - without)
    return told(found)


class Cumulants(Case):

    def test_known(self):
        self.same(cumulants_of(fracs(3), "all"), ())
        self.same(cumulants_of(fracs(2, 4), "free"), fracs(2))
        for kind in KINDS:
            self.same(cumulants_of(fracs(1, 0, 1), kind), fracs(0, 1))
            self.same(row_of_cumulants(frac(5), (), kind), fracs(5))
            self.same(row_of_cumulants(frac(5), fracs(1, 2), kind), fracs(5, 5, 15))
            self.same(moment_by(kind, (), 0), frac(1))
            self.same(moment_by(kind, fracs(4), 1), frac(4))
        self.same(cumulants_of(fracs(1, 1, 2, 5, 15), "all"), fracs(1, 1, 1, 1))
        self.same(cumulants_of(fracs(1, 1, 2, 5, 14), "free"), fracs(1, 1, 1, 1))
        self.same(cumulants_of(fracs(1, 1, 2, 4, 8), "stretch"), fracs(1, 1, 1, 1))
        self.same(moment_by("all", fracs(1, 1, 1, 1), 4), frac(15))
        self.same(moment_by("free", fracs(1, 1, 1, 1), 4), frac(14))
        self.same(moment_by("stretch", fracs(1, 1, 1, 1), 4), frac(8))
        self.same(cumulant_by(fracs(1, 0, 1, 0, 3), "all", 4), frac(0))
        self.same(cumulant_by(fracs(1, 0, 1, 0, 3), "free", 4), frac(1))
        self.same(cumulant_by(fracs(1, 0, 1, 0, 3), "stretch", 4), frac(2))

    def test_of_rows(self):
        for row in rows_of_any_kind(401, 12):
            for kind in KINDS:
                got = self.twice(cumulants_of, row, kind)
                self.same(got, model_cumulants(row, kind))
                self.same(self.twice(row_of_cumulants, row[0], got, kind), row)
                for number in range(1, min(len(row), 8)):
                    self.same(cumulant_by(row, kind, number), got[number - 1])

    def test_to_rows(self):
        r = random.Random(402)
        for many in range(9):
            for kind in KINDS:
                for _ in range(2):
                    total, cumulants = some_above(r), tuple([some_fraction(r) for _ in range(many)])
                    row = self.twice(row_of_cumulants, total, cumulants, kind)
                    self.same(need_row(row)[0], total)
                    for number in range(1, many + 1):
                        wanted = model_moment(kind, worths(cumulants), number)
                        self.assertEqual(worth(row[number]), worth(total) * wanted)
                        if number < 8:
                            self.same(moment_by(kind, cumulants, number), frac(wanted))
                    self.same(cumulants_of(row, kind), cumulants)

    def test_back_by_signs(self):
        r = random.Random(403)
        for kind in KINDS:
            row = tuple([some_above(r)] + [some_fraction(r) for _ in range(7)])
            for number in range(1, 8):
                whole = Fraction(0)
                for parting in PARTINGS[kind, number]:
                    part = Fraction(model_sign(kind, parting))
                    for block in parting:
                        part *= worth(row[len(block)]) / worth(row[0])
                    whole += part
                self.same(self.twice(cumulant_by, row, kind, number), frac(whole))
                self.same(self.twice(moment_by, kind, row[1:], number),
                          frac(model_moment(kind, worths(row[1:]), number)))

    def test_plain_ones(self):
        # The ladders of [50] have plain cumulants.
        level, step = Fraction(2, 3), Fraction(5, 4)
        plain = told([level, step] + [0] * 6)
        ladder = (frac(1), told([level] * 4), told([step] * 4))
        self.same(cumulants_of(row_of(ladder, 8), "free"), plain)
        ladder = (frac(1), told([level] * 4), told([k * step for k in range(1, 5)]))
        self.same(cumulants_of(row_of(ladder, 8), "all"), plain)
        ladder = (frac(1), told([level + k for k in range(4)]), told([k * level for k in range(1, 5)]))
        self.same(cumulants_of(row_of(ladder, 8), "all"), told([level] * 8))
        ladder = (frac(1), told([level] + [level + 1] * 3), told([level] * 4))
        self.same(cumulants_of(row_of(ladder, 8), "free"), told([level] * 8))
        ladder = (frac(1), told([level, 0]), told([step, 0]))
        self.same(cumulants_of(row_of(ladder, 8), "stretch"), plain)

    def test_numbers(self):
        for kind in KINDS:
            for many in range(8):
                for number in (many + 1, 8, -1):
                    self.refused(BadNumber, number, moment_by, kind, fracs(*range(many)), number)
            self.refused(BadNumber, 8, moment_by, kind, fracs(*range(8)), 8)
            self.same(moment_by(kind, fracs(*[1] * 8), 0), frac(1))
            for many in range(1, 10):
                row = fracs(*[1] * many)
                for number in (0, many, 8, 9, -1):
                    self.refused(BadNumber, number, cumulant_by, row, kind, number)

    def test_many_figures(self):
        row = tuple([frac(BIG - k, BIGGER + 2 * k) for k in range(9)])
        for kind in KINDS:
            got = cumulants_of(row, kind)
            self.same(row_of_cumulants(row[0], got, kind), row)
            self.same(cumulant_by(row, kind, 7), got[6])
            self.same(moment_by(kind, got, 7), frac(worth(row[7]) / worth(row[0])))

    def test_wrong(self):
        rows, kinds, some = (BadRow, wrong_rows()), (BadKind, wrong_kinds()), (BadCumulants, wrong_cumulants())
        totals = (BadFraction, wrong_above())
        self.each_refused(cumulants_of, (fracs(1, 2), "all"), [rows, kinds])
        self.each_refused(row_of_cumulants, (frac(1), fracs(1, 2), "all"), [totals, some, kinds])
        self.each_refused(moment_by, ("free", fracs(1, 2), 2), [kinds, some, (BadNumber, wrong_numbers(0, 2))])
        self.each_refused(cumulant_by, (fracs(1, 2, 3), "free", 2), [rows, kinds, (BadNumber, wrong_numbers(1, 2))])


if __name__ == "__main__":
    unittest.main()
