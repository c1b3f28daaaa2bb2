import random
import unittest

from rungshare.errors import BadPaper, BadRow, NoShare
from rungshare.ladders import is_ended, norms, row_of
from rungshare.rows import moments
from rungshare.rowshares import check_row, is_of_share, ladder_of, pivots, row_paper
from samples import ANY, BIG, BIGGER, Case, by_row, frac, fracs, from_roots, ladders, last_of, mul, poly_told
from samples import rows_of_any_kind, some_share, told, worth, worths, wrong_ladders, wrong_polys, wrong_rows

FORM_WORDS = ("ladder", "square", "rest")


def model_pivots(row):
    """The sums of the squares, by the rule of three terms, in Python's own fractions."""
    row = worths(row)
    polys, found = [[worth((1, 1))]], [row[0]]
    while found[-1] > 0 and 2 * len(found) < len(row):
        here = polys[-1]
        level = by_row(row, mul(here, here), 1) / found[-1]
        more = mul([-level, worth((1, 1))], here)
        if len(polys) > 1:
            step = found[-1] / found[-2]
            more = [a - step * b for a, b in zip(more, polys[-2] + [0] * len(more))]
        polys.append(more)
        found.append(by_row(row, mul(more, more)))
    return told(found)


class RowShares(Case):

    def holds(self, row, paper):
        """That the paper proves what it says, by the words of the document alone."""
        last, some = len(row) - 1, worths(row)
        if paper[0] == "ladder":
            ladder = paper[1]
            self.same(row_of(ladder, last), row)
            if is_ended(ladder):
                self.assertLessEqual(2 * len(ladder[2]), last)
            else:
                self.assertEqual(len(ladder[1]) + len(ladder[2]), last)
            return
        poly = worths(paper[1])
        self.assertLessEqual(2 * (len(poly) - 1), last)
        square = by_row(some, mul(poly, poly))
        if paper[0] == "square":
            self.assertEqual(len(paper), 2)
            self.assertLess(square, 0)
        else:
            self.assertEqual((paper[0], len(paper)), ("rest", 3))
            self.assertNotEqual(poly, [])
            self.assertEqual(square, 0)
            self.assertLessEqual(len(poly) - 1 + paper[2], last)
            self.assertNotEqual(by_row(some, poly, paper[2]), 0)

    def test_known_rows(self):
        self.same(row_paper(fracs(3)), ("ladder", (frac(3), (), ())))
        self.same(row_paper(fracs(3, -6)), ("ladder", (frac(3), fracs(-2), ())))
        self.same(row_paper(fracs(1, 0, 1)), ("ladder", (frac(1), fracs(0), fracs(1))))
        self.same(row_paper(fracs(1, 0, 0)), ("ladder", (frac(1), fracs(0), fracs(0))))
        self.same(row_paper(fracs(2, 4, 8, 16, 32)), ("ladder", (frac(2), fracs(2), fracs(0))))
        self.same(row_paper(fracs(1, 0, 1, 0, 1)), ("ladder", (frac(1), fracs(0, 0), fracs(1, 0))))
        self.same(row_paper(fracs(1, 0, 1, 0, 2)), ("ladder", (frac(1), fracs(0, 0), fracs(1, 1))))
        self.same(row_paper(fracs(1, 0, 1, 2, 9)), ("ladder", (frac(1), fracs(0, 2), fracs(1, 4))))
        self.same(row_paper(fracs(1, 0, -1)), ("square", fracs(0, 1)))
        self.same(row_paper(fracs(1, 2, 3)), ("square", fracs(-2, 1)))
        self.same(row_paper(fracs(1, 0, 0, 1)), ("rest", fracs(0, 1), 2))
        self.same(row_paper(fracs(1, 0, 0, 0, 1)), ("rest", fracs(0, 1), 3))
        self.same(row_paper(fracs(1, 1, 1, 1, 1, 2)), ("rest", fracs(-1, 1), 4))
        self.same(row_paper(fracs(1, 0, 1, 0, 0)), ("square", fracs(-1, 0, 1)))

    def test_is_of_share(self):
        self.assertIs(is_of_share(fracs(3)), True)
        self.assertIs(is_of_share(fracs(3, -5)), True)
        self.assertIs(is_of_share(fracs(1, 0, 0)), True)
        self.assertIs(is_of_share(fracs(1, 0, 0, 1)), False)
        self.assertIs(is_of_share(fracs(1, 0, -1)), False)
        self.assertIs(is_of_share(fracs(1, 0, 1, 0, 1, 0, 1, 0, 1)), True)
        self.assertIs(is_of_share(fracs(1, 0, 1, 0, 1, 0, 1, 0, 2)), False)

    def test_rows_of_any_kind(self):
        words = {}
        for row in rows_of_any_kind(21, 120):
            paper = self.twice(row_paper, row)
            words[paper[0]] = words.get(paper[0], 0) + 1
            self.holds(row, paper)
            self.assertIs(check_row(row, paper), paper[0])
            self.assertIs(is_of_share(row), paper[0] == "ladder")
            self.same(self.twice(pivots, row), model_pivots(row))
            if paper[0] == "ladder":
                self.same(ladder_of(row), paper[1])
            else:
                self.refused(NoShare, paper, ladder_of, row)
        self.assertEqual(sorted(words), sorted(FORM_WORDS))
        self.assertGreater(min(words.values()), 8)

    def test_ladders_to_rows_and_back(self):
        for ladder in ladders(22, 6):
            last = last_of(ladder)
            if 2 * len(ladder[2]) > last:
                continue
            row = row_of(ladder, last)
            self.same(ladder_of(row), ladder)
            self.same(row_of(ladder_of(row), last), row)
            self.same(pivots(row), norms(ladder))

    def test_rows_of_shares(self):
        r = random.Random(23)
        for many in range(1, 7):
            share = some_share(r, many)
            for top in range(9):
                row = moments(share, top)
                ladder = ladder_of(row)
                self.assertIs(is_ended(ladder), top >= 2 * many)
                if top >= 2 * many:
                    self.assertEqual(len(ladder[1]), many)
                    poly = from_roots(*[number for number, _ in share])
                    self.assertEqual(by_row(worths(row), mul(worths(poly), worths(poly))), 0)

    def test_pivots(self):
        self.same(pivots(fracs(3)), fracs(3))
        self.same(pivots(fracs(3, 5)), fracs(3))
        self.same(pivots(fracs(3, 3, 5)), fracs(3, 2))
        self.same(pivots(fracs(1, 2, 3, 9, 9)), fracs(1, -1))
        self.same(pivots(fracs(1, 0, 0, 5, 7)), fracs(1, 0))
        self.same(pivots(fracs(1, 0, 1, 0, 1, 7, 7)), fracs(1, 1, 0))
        self.same(pivots(fracs(1, 0, 1, 0, 0, 7, 7)), fracs(1, 1, -1))
        self.same(pivots(fracs(1, 0, 1, 0, 2, 0, 5, 0, 14)), fracs(1, 1, 1, 1, 1))
        self.same(pivots(fracs(1, 0, 1, 0, 2, 0, 5, 0, 13)), fracs(1, 1, 1, 1, 0))

    def test_other_papers_that_hold(self):
        row = fracs(1, 0, -1, 0, 3)
        for poly in [fracs(0, 1), fracs(0, -5), fracs((1, 2), 1), fracs(0, 2)]:
            self.assertIs(check_row(row, ("square", poly)), "square")
        # A square and a rest may both hold of one row.
        row = fracs(1, 0, 0, 1, -1)
        for paper in [("square", fracs(0, 0, 1)), ("rest", fracs(0, 1), 2), ("rest", fracs(0, 7), 3)]:
            self.assertIs(check_row(row, paper), paper[0])
        row = fracs(1, -1, 1, 5)
        self.assertIs(check_row(row, ("rest", fracs(1, 1), 2)), "rest")
        self.assertIs(check_row(row, ("rest", fracs(-3, -3), 2)), "rest")
        # The first rest that is not nought is told, but later ones hold, too.
        row = fracs(1, 0, 0, 1, 1, 1)
        for number in (2, 3, 4):
            self.assertIs(check_row(row, ("rest", fracs(0, 1), number)), "rest")

    def test_papers_that_do_not_hold(self):
        open_row, ended_row = fracs(1, 0, 1, 0, 2), fracs(1, 0, 0, 0, 0)
        for row in (open_row, ended_row, fracs(1, 0, -1, 0, 1), fracs(1, 0, 0, 1, 0), fracs(1)):
            for paper in [("square", ()), ("square", fracs(1)), ("rest", (), 0), ("rest", fracs(1), 0)]:
                self.refused(BadPaper, paper[0], check_row, row, paper)
            for ladder in [(frac(1), fracs(0), fracs(1)), (frac(1), fracs(0), ()), (frac(2), fracs(0), fracs(0))]:
                self.refused(BadPaper, "ladder", check_row, row, ("ladder", ladder))
        self.refused(BadPaper, "rest", check_row, ended_row, ("rest", fracs(0, 1), 0))
        self.refused(BadPaper, "rest", check_row, ended_row, ("rest", fracs(0, 1), 3))
        self.refused(BadPaper, "square", check_row, fracs(1, 0, 0), ("square", fracs(0, 1)))
        row = fracs(1, 0, -1, 0, 3)
        self.refused(BadPaper, "square", check_row, row, ("square", fracs(1, 1)))
        self.refused(BadPaper, "square", check_row, row, ("square", fracs(0, 0, 1)))
        self.refused(BadPaper, "rest", check_row, row, ("rest", fracs(2, 1), 1))
        self.assertIs(check_row(row, ("rest", fracs(1, 1), 1)), "rest")
        row = fracs(1, 0, 0, 1, 0)
        self.refused(BadPaper, "rest", check_row, row, ("rest", fracs(0, 1), 0))
        self.refused(BadPaper, "rest", check_row, row, ("rest", fracs(0, 1), 1))
        self.refused(BadPaper, "rest", check_row, row, ("rest", fracs(0, 1), 3))
        self.assertIs(check_row(row, ("rest", fracs(0, 1), 2)), "rest")

    def test_ladder_of_another_length(self):
        row = fracs(1, 0, 1, 0, 2)
        longer = (frac(1), fracs(0, 0, 0), fracs(1, 1))
        self.same(row_of(longer, 4), row)
        self.refused(BadPaper, "ladder", check_row, row, ("ladder", longer))
        ended = (frac(1), fracs(0, 0, 0), fracs(1, 1, 0))
        self.same(row_of(ended, 4), row)
        self.refused(BadPaper, "ladder", check_row, row, ("ladder", ended))
        self.assertIs(check_row(row, ("ladder", (frac(1), fracs(0, 0), fracs(1, 1)))), "ladder")
        self.refused(BadPaper, "ladder", check_row, fracs(1), ("ladder", (frac(1), fracs(0), fracs(0))))

    def test_degrees_at_half_of_n(self):
        # Of N = 3 a square has a degree of at most 1, of N = 4 one of at most 2.
        self.refused(BadPaper, "square", check_row, fracs(1, -1), ("square", fracs(1, 1)))
        self.refused(BadPaper, "square", check_row, fracs(1, 0, -1, 0), ("square", fracs(1, 0, 1)))
        self.assertIs(check_row(fracs(1, 0, -1, 0, 0), ("square", fracs(1, 0, 1))), "square")
        self.refused(BadPaper, "rest", check_row, fracs(1, 0, 0, 5), ("rest", fracs(0, 0, 1), 1))
        poly = fracs(0, 0, 1)
        self.refused(BadPaper, "square", check_row, fracs(1, 0, 1, 0), ("square", poly))
        self.assertIs(check_row(fracs(1, 0, 1, 0, -1), ("square", poly)), "square")
        self.refused(BadPaper, "square", check_row, fracs(1, 0, -1, 0), ("square", poly))
        self.refused(BadPaper, "rest", check_row, fracs(1, 0, 1, 1), ("rest", poly, 1))
        self.assertIs(check_row(fracs(1, 0, 1, 1, 0), ("rest", poly, 1)), "rest")
        self.assertIs(check_row(fracs(1, 0, 1, 1, 0), ("rest", poly, 0)), "rest")
        for number in (2, 3, 10 ** 59):
            self.refused(BadPaper, "rest", check_row, fracs(1, 0, 1, 1, 0), ("rest", poly, number))
        self.refused(BadPaper, "rest", check_row, fracs(1, 0, 0, 1), ("rest", fracs(0, 1), 3))
        self.refused(BadPaper, "rest", check_row, fracs(1, 0, 0, 1), ("rest", fracs(0, 1), -1))

    def test_forms(self):
        row, poly, ladder = fracs(1, 0, 0, 1), fracs(0, 1), (frac(1), fracs(0), fracs(0))
        wrong = [("ladder",), ("ladder", ladder, 1), ("square",), ("square", poly, 0), ("rest", poly), ("rest",)]
        wrong += [("rest", poly, 2, 0), ("Rest", poly, 2), ("", poly), (b"rest", poly, 2), ["rest", poly, 2], "rest"]
        wrong += [("line", poly), ("turn", 1), (("rest", poly, 2),), (None, poly, 2), (["rest"], poly, 2), (), ladder]
        wrong += [({}, poly), ({"rest": 1}, poly, 2), (1, poly), (True, poly), {"rest": 1}, {"rest"}, None]
        for paper in wrong + ANY:
            self.refused(BadPaper, "form", check_row, row, paper)

    def test_wrong_things_in_papers(self):
        row = fracs(1, 0, 0, 1)
        for thing in wrong_ladders():
            self.refused(BadPaper, "ladder", check_row, fracs(1), ("ladder", thing))
        for thing in wrong_polys() + [[fracs(0, 1)]]:
            self.refused(BadPaper, "square", check_row, fracs(1, 0, -1), ("square", thing))
            self.refused(BadPaper, "rest", check_row, row, ("rest", thing, 2))
        for thing in [True, False, None, "2", b"2", [2], (2,), (2, 1), {}, {2}, -1, -2, 3, BIG, -BIG]:
            self.refused(BadPaper, "rest", check_row, row, ("rest", fracs(0, 1), thing))
        ladder = ((True, 1), (), ())
        self.refused(BadPaper, "ladder", check_row, fracs(1), ("ladder", ladder))

    def test_true_is_no_power(self):
        row, poly = fracs(1, 0, 1, 1, 0), fracs(0, 0, 1)
        self.assertIs(check_row(row, ("rest", poly, 1)), "rest")
        self.refused(BadPaper, "rest", check_row, row, ("rest", poly, True))
        self.refused(BadPaper, "rest", check_row, row, ("rest", poly, False))

    def test_many_figures(self):
        share = tuple([(frac(k - BIG), frac(BIGGER + k, BIG)) for k in range(5)])
        row = moments(share, 8)
        self.assertIs(is_of_share(row), True)
        self.assertIs(check_row(row, row_paper(row)), "ladder")
        less = row[:8] + (frac(worth(row[8]) - worth((1, BIG ** 4)) ** 20),)
        paper = row_paper(moments(share[:4], 8)[:8] + (frac(worth(moments(share[:4], 8)[8]) - worth((1, BIG)) ** 9),))
        self.assertEqual(paper[0], "square")
        self.assertIs(is_of_share(less), True)
        row = (frac(1), frac(BIG), frac(BIG ** 2 - 1))
        self.same(row_paper(row), ("square", (frac(-BIG), frac(1))))
        poly = poly_told(worths(row_paper(row)[1]))
        self.assertIs(check_row(row, ("square", poly)), "square")

    def test_wrong(self):
        rows = (BadRow, wrong_rows())
        for deed in (is_of_share, ladder_of, row_paper, pivots):
            self.each_refused(deed, (fracs(1, 2),), [rows])
        row = fracs(1, 0, -1)
        for thing in wrong_rows():
            for paper in [("square", fracs(0, 1)), None, (), ("rest",), 1]:
                self.assertIs(self.refused(BadRow, thing, check_row, thing, paper), thing)
        self.assertIs(check_row(row, ("square", fracs(0, 1))), "square")


if __name__ == "__main__":
    unittest.main()
