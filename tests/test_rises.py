import random
import unittest

from rungshare.errors import BadFraction, BadPaper, BadRises, BadRow
from rungshare.ladders import row_of
from rungshare.rises import check_rises, need_rises, rises_ladder, rises_of, rises_paper
from rungshare.rows import moments
from rungshare.rowshares import is_of_share, ladder_of, row_paper
from samples import ANY, BIG, BIGGER, Case, by_row, frac, fracs, last_of, mul, rows_of_any_kind, some_above
from samples import some_share, worth, worths, wrong_above, wrong_polys, wrong_rises, wrong_rows

WORDS = {"rises": 2, "square": 2, "rest": 3, "line": 2, "line rest": 3}


def all_rises(seed, rounds=3):
    """Open and ended ones of every number."""
    r = random.Random(seed)
    found = [((), True), (fracs(0), False)]
    for _ in range(rounds):
        for many in range(1, 9):
            some = tuple([some_above(r) for _ in range(many)])
            found += [(some, True), (some[1:] + fracs(0), False)]
    return found


class Rises(Case):

    def holds(self, row, paper):
        """That the paper proves what it says, by the words of the document alone."""
        last, some = len(row) - 1, worths(row)
        self.assertEqual(len(paper), WORDS[paper[0]])
        if paper[0] == "rises":
            rises = paper[1]
            self.same(row_of(rises_ladder(row[0], rises), last), row)
            ended = len(rises) > 0 and rises[-1] == (0, 1)
            self.assertTrue(len(rises) <= last if ended else len(rises) == last)
            return
        poly = worths(paper[1])
        degree, more = len(poly) - 1, 1 if paper[0] in ("line", "line rest") else 0
        self.assertTrue(2 * degree < last if more else 2 * degree <= last)
        square = by_row(some, mul(poly, poly), more)
        if paper[0] in ("square", "line"):
            self.assertLess(square, 0)
        else:
            self.assertNotEqual(poly, [])
            self.assertEqual(square, 0)
            self.assertTrue(paper[2] >= 0 and degree + paper[2] + more <= last)
            self.assertNotEqual(by_row(some, poly, paper[2] + more), 0)

    def test_need_rises(self):
        for good, _ in all_rises(101) + [(fracs((1, BIG), BIG, BIGGER, 0), False)]:
            self.assertIs(need_rises(good), good)

    def test_known_ladders(self):
        self.same(rises_ladder(frac(3), ()), (frac(3), (), ()))
        self.same(rises_ladder(frac(3), fracs(2)), (frac(3), fracs(2), ()))
        self.same(rises_ladder(frac(3), fracs(0)), (frac(3), fracs(0), fracs(0)))
        self.same(rises_ladder(frac(3), fracs(2, 5)), (frac(3), fracs(2), fracs(10)))
        self.same(rises_ladder(frac(3), fracs(2, 0)), (frac(3), fracs(2), fracs(0)))
        self.same(rises_ladder(frac(3), fracs(2, 5, 7)), (frac(3), fracs(2, 12), fracs(10)))
        self.same(rises_ladder(frac(3), fracs(2, 5, 0)), (frac(3), fracs(2, 5), fracs(10, 0)))
        self.same(rises_ladder(frac(3), fracs(2, 5, 7, 0)), (frac(3), fracs(2, 12), fracs(10, 0)))
        self.same(rises_ladder(frac(3), fracs(2, 5, 7, 11)), (frac(3), fracs(2, 12), fracs(10, 77)))
        eight = (frac(1), fracs(1, 5, 9, 13), fracs(2, 12, 30, 56))
        self.same(rises_ladder(frac(1), fracs(*range(1, 9))), eight)
        self.same(rises_ladder(frac(1), fracs(*range(1, 8))), (frac(1), eight[1], eight[2][:3]))
        self.same(rises_ladder(frac(1), fracs(*range(1, 8), 0)), (frac(1), eight[1], fracs(2, 12, 30, 0)))
        self.same(rises_ladder(frac(1), fracs(*range(1, 7), 0)), (frac(1), fracs(1, 5, 9, 6), fracs(2, 12, 30, 0)))

    def test_ladders_rows_and_back(self):
        for rises, is_open in all_rises(102, 5):
            ladder = self.twice(rises_ladder, frac(5, 3), rises)
            most = last_of(ladder)
            if is_open:
                self.assertEqual(len(ladder[1]) + len(ladder[2]), len(rises))
                row = row_of(ladder, most)
                self.has_rises(row, rises)
                self.same(ladder_of(row), ladder)
            else:
                for top in range(len(rises), 9):
                    self.has_rises(row_of(ladder, top), rises)

    def has_rises(self, row, rises):
        self.same(self.twice(rises_of, row), rises)
        self.same(self.twice(rises_paper, row), ("rises", rises))
        self.holds(row, ("rises", rises))
        self.assertIs(check_rises(row, ("rises", rises)), "rises")
        others = [rises + fracs(1), rises + fracs(0), rises[:-1], fracs(BIG) + rises[1:], rises[:-1] + fracs(0)]
        for other in others:
            if other != rises:
                self.refused(BadPaper, "rises", check_rises, row, ("rises", other))
        self.assertIs(is_of_share(row), True)

    def test_known_rows(self):
        self.same(rises_of(fracs(3)), ())
        self.same(rises_of(fracs(1, 0)), fracs(0))
        self.same(rises_of(fracs(1, 0, 0, 0)), fracs(0))
        self.same(rises_of(fracs(1, 2)), fracs(2))
        self.same(rises_of(fracs(1, 2, 4)), fracs(2, 0))
        self.same(rises_of(fracs(1, 1, 2, 5, 14, 42, 132, 429, 1430)), fracs(*[1] * 8))
        self.same(rises_of(fracs(1, 1, 2, 6, 24, 120, 720, 5040, 40320)), fracs(1, 1, 2, 2, 3, 3, 4, 4))
        # The own ladder of this one is open, its rises are ended: a number is 0.
        self.same(rises_of(fracs(2, 1, 1, 1)), fracs((1, 2), (1, 2), 0))
        self.same(ladder_of(fracs(2, 1, 1, 1)), (frac(2), fracs((1, 2), (1, 2)), fracs((1, 4))))
        self.same(rises_paper(fracs(1, 0)), ("rises", fracs(0)))

    def test_the_other_words(self):
        self.same(rises_paper(fracs(1, -1)), ("line", fracs(1)))
        self.same(rises_paper(fracs(1, 0, 1)), ("line rest", fracs(1), 1))
        self.same(rises_paper(fracs(1, 0, 0, 0, 7)), ("line rest", fracs(1), 3))
        self.same(rises_paper(fracs(1, 1, 0)), ("square", fracs(-1, 1)))
        self.same(rises_paper(fracs(1, 1, 1, 2)), ("rest", fracs(-1, 1), 2))
        self.same(rises_paper(fracs(1, 1, 1, 1, 2)), ("rest", fracs(-1, 1), 3))
        self.same(rises_paper(fracs(1, 1, 2, 3)), ("line", fracs(-2, 1)))
        self.same(rises_paper(fracs(1, 1, 2, 4, 9)), ("line rest", fracs(-2, 1), 2))
        self.same(rises_paper(fracs(1, 1, 2, 4, 8)), ("rises", fracs(1, 1, 0)))

    def test_rows_of_any_kind(self):
        words = {}
        r = random.Random(103)
        rows = rows_of_any_kind(104, 150) + [moments(some_share(r, r.randint(1, 4), 0, 5), r.randint(0, 8))
                                             for _ in range(60)]
        for rises, is_open in all_rises(105, 4):
            ladder = rises_ladder(frac(2), rises)
            row = list(row_of(ladder, last_of(ladder)))
            row[r.randint(1, len(row)) - 1] = some_above(r)
            rows.append(tuple(row))
            row = list(row_of(ladder, last_of(ladder)))
            row[-1] = frac(worth(row[-1]) + r.choice([1, -1]))
            if row[0][0] > 0:
                rows.append(tuple(row))
        for row in rows:
            paper = self.twice(rises_paper, row)
            words[paper[0]] = words.get(paper[0], 0) + 1
            self.holds(row, paper)
            self.same(check_rises(row, paper), paper[0])
            self.same(rises_of(row), paper[1] if paper[0] == "rises" else None)
            if paper[0] == "rises":
                self.assertIs(is_of_share(row), True)
            if row_paper(row)[0] != "ladder":
                self.assertNotEqual(paper[0], "rises")
                self.same(check_rises(row, row_paper(row)), row_paper(row)[0])
        self.assertEqual(sorted(words), sorted(WORDS))
        self.assertGreater(min(words.values()), 5)

    def test_rows_of_shares_from_nought_on(self):
        r = random.Random(106)
        for _ in range(60):
            share = some_share(r, r.randint(1, 6), r.choice([-2, 0, 0]), 4)
            top = r.randint(0, 8)
            rises = rises_of(moments(share, top))
            if share[0][0][0] >= 0:
                self.assertIsNot(rises, None)
                many = 2 * len(share) - (share[0][0] == (0, 1))
                self.assertEqual(len(rises), min(many, top))
                self.assertEqual(len(rises) > 0 and rises[-1] == (0, 1), top >= many)
            elif top >= 2 * len(share) + 1:
                self.assertIs(rises, None)

    def test_other_papers_that_hold(self):
        row = fracs(1, -1, -1, 0)
        for paper in [("line", fracs(1)), ("line", fracs(-5)), ("square", fracs(0, 1)), ("line", fracs(1, 1))]:
            self.same(check_rises(row, paper), paper[0])
        row = fracs(1, 0, 1, 5, 7)
        for paper in [("line rest", fracs(1), 1), ("line rest", fracs((1, 3)), 2), ("line rest", fracs(1), 3)]:
            self.same(check_rises(row, paper), "line rest")
        self.same(check_rises(fracs(1, -2, 1, 0), ("line rest", fracs(1, 1), 0)), "line rest")
        self.same(check_rises(fracs(1, -2, 1, 0), ("line rest", fracs(1, 1), 1)), "line rest")

    def test_papers_that_do_not_hold(self):
        for row in (fracs(3), fracs(1, 0), fracs(2, 1, 1, 1), fracs(1, 1, 2, 5, 14)):
            for poly in [(), fracs(1), fracs(0, 1), fracs(-1, 1), fracs(0, 0, 1)]:
                self.refused(BadPaper, "square", check_rises, row, ("square", poly))
                self.refused(BadPaper, "line", check_rises, row, ("line", poly))
                for number in range(4):
                    self.refused(BadPaper, "rest", check_rises, row, ("rest", poly, number))
                    self.refused(BadPaper, "line rest", check_rises, row, ("line rest", poly, number))
        row = fracs(1, -2, 1, 0)
        for paper in [("line rest", fracs(1, 1), 2), ("line rest", fracs(1, 1), -1), ("line rest", (), 0),
                      ("line rest", fracs(1), 0), ("line rest", fracs(1), 1), ("line", fracs(1, 1)), ("rises", ()),
                      ("line rest", fracs(1, 1), BIG), ("rises", fracs(1, 1, 1)), ("line", ()), ("rises", fracs(0))]:
            self.refused(BadPaper, paper[0], check_rises, row, paper)

    def test_degrees(self):
        # Of N = 2 a line has the degree 0, of N = 3 at most 1.
        self.refused(BadPaper, "line", check_rises, fracs(1, 0, 0), ("line", fracs(0, 1)))
        self.refused(BadPaper, "line", check_rises, fracs(1, -1, 0), ("line", fracs(1, 1)))
        self.refused(BadPaper, "line", check_rises, fracs(1, -1, 0, 0), ("line", fracs(1, 0, 1)))
        self.assertIs(check_rises(fracs(1, 0, 0, -1), ("line", fracs(0, 1))), "line")
        self.refused(BadPaper, "line", check_rises, fracs(1), ("line", fracs(1)))
        self.assertIs(check_rises(fracs(1, -1), ("line", fracs(1))), "line")
        self.refused(BadPaper, "line rest", check_rises, fracs(1, 1, 1), ("line rest", fracs(0, 1), 0))
        self.same(check_rises(fracs(1, 1, 1, 0), ("line rest", fracs(0, 1), 0)), "line rest")
        self.refused(BadPaper, "line rest", check_rises, fracs(1, 0), ("line rest", fracs(1), 1))
        self.refused(BadPaper, "line rest", check_rises, fracs(1, 1, 1, 0), ("line rest", fracs(0, 1), 1))
        self.same(check_rises(fracs(1, 1, 1, 0, 1), ("line rest", fracs(0, 1), 2)), "line rest")
        self.refused(BadPaper, "line rest", check_rises, fracs(1, 1, 1, 0, 1), ("line rest", fracs(0, 1), 3))

    def test_forms(self):
        row, poly = fracs(1, 0, 1), fracs(1)
        wrong = [("rises",), ("rises", (), 1), ("square", poly, 0), ("rest", poly), ("line", poly, 1), ("line",),
                 ("line rest", poly), ("line rest", poly, 1, 0), ("ladder", (frac(1), (), ())), ("lines", poly),
                 (b"line", poly), ["line rest", poly, 1], "line rest", (("line rest", poly, 1),), ("", poly),
                 (["line"], poly), (None, poly, 1), ("turn", 1), {"line": poly}, (1, poly), ("line_rest", poly, 1)]
        for paper in wrong + ANY:
            self.refused(BadPaper, "form", check_rises, row, paper)
        self.same(check_rises(row, ("line rest", poly, 1)), "line rest")

    def test_wrong_things_in_papers(self):
        for thing in wrong_rises():
            self.refused(BadPaper, "rises", check_rises, fracs(1, 2), ("rises", thing))
        self.refused(BadPaper, "rises", check_rises, fracs(1, 1), ("rises", ((True, 1),)))
        self.refused(BadPaper, "rises", check_rises, fracs(1, 1), ("rises", [(1, 1)]))
        for thing in wrong_polys():
            self.refused(BadPaper, "square", check_rises, fracs(1, 1, 0), ("square", thing))
            self.refused(BadPaper, "rest", check_rises, fracs(1, 1, 1, 2), ("rest", thing, 2))
            self.refused(BadPaper, "line", check_rises, fracs(1, -1), ("line", thing))
            self.refused(BadPaper, "line rest", check_rises, fracs(1, 0, 1), ("line rest", thing, 1))
        for thing in [True, False, None, "1", b"1", [1], (1,), (1, 1), {}, {1}, -1, 0, 2, BIG, -BIG]:
            self.refused(BadPaper, "line rest", check_rises, fracs(1, 0, 1), ("line rest", fracs(1), thing))
        for thing in [True, False, None, "2", [2], (2, 1), -1, 3, BIG]:
            self.refused(BadPaper, "rest", check_rises, fracs(1, 1, 1, 2), ("rest", fracs(-1, 1), thing))

    def test_many_figures(self):
        rises = fracs(BIG, (1, BIG), (BIGGER, BIG), BIG, BIGGER, (1, BIGGER), BIG, (BIG, 8))
        row = row_of(rises_ladder(frac(BIGGER, BIG), rises), 8)
        self.has_rises(row, rises)
        self.has_rises(row[:6], rises[:5])

    def test_wrong(self):
        self.each_refused(need_rises, (fracs(1, 2),), [(BadRises, wrong_rises())])
        self.each_refused(rises_ladder, (frac(1), ()), [(BadFraction, wrong_above()), (BadRises, wrong_rises())])
        for deed in (rises_of, rises_paper):
            self.each_refused(deed, (fracs(1, 2),), [(BadRow, wrong_rows())])
        for thing in wrong_rows():
            for paper in [("line", fracs(1)), None, (), ("rest",), 1]:
                self.assertIs(self.refused(BadRow, thing, check_rises, thing, paper), thing)


if __name__ == "__main__":
    unittest.main()
