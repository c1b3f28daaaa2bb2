import random
import unittest
from fractions import Fraction

from rungshare.errors import BadFraction, BadLoad, BadOpen, BadPaper, BadRow, NoShare
from rungshare.ladders import norms, row_of, rung_polys
from rungshare.marks import can_be_there, check_weight, least_square, left_row, most_at, weight_paper
from rungshare.polys import product
from rungshare.rows import moments, sum_by
from rungshare.rowshares import is_of_share, ladder_of
from rungshare.signs import rational_roots
from samples import ANY, BIG, BIGGER, Case, add, at, frac, fracs, last_of, level_ladders, mul, poly_told
from samples import rows_not_level, rows_of_no_share, some_fraction, some_share, told, worth, worths
from samples import wrong_above, wrong_fractions, wrong_ladders, wrong_loads, wrong_polys, wrong_rows

PLAIN = fracs(1, 0, 1)
LOAD = ((frac(0), frac(1, 2)),)


def level_rows(seed):
    """Rows as [42] asks for, with their ladders."""
    return [(row_of(ladder, last_of(ladder)), ladder) for ladder in level_ladders(seed)]


def model_left(row, load):
    return told([worth(m) - sum([worth(w) * worth(n) ** k for n, w in load], Fraction(0)) for k, m in enumerate(row)])


def model_can(left):
    if all([moment == (0, 1) for moment in left]):
        return True
    return left[0][0] > 0 and is_of_share(left)


def model_most(ladder, mark):
    sums = [at(worths(poly), worth(mark)) ** 2 / worth(norm) for poly, norm in zip(rung_polys(ladder), norms(ladder))]
    return 1 / sum(sums)


def some_marks(r, ladder):
    """Marks of any kind, among them ones at which a rung polynomial is nought."""
    found = [frac(0), frac(r.randint(-3, 3)), some_fraction(r), frac(BIG)]
    for poly in rung_polys(ladder)[1:]:
        found += list(rational_roots(poly))[:2]
    return found


class Marks(Case):

    def rows_refused(self, deed, *behind):
        """Rows that are not as [42] asks for are refused behind all other arguments."""
        for row in rows_not_level(361):
            self.assertIs(self.refused(BadOpen, row, deed, row, *behind), row)
        for row, paper in rows_of_no_share(362):
            self.refused(NoShare, paper, deed, row, *behind)

    def test_known(self):
        self.same(left_row(PLAIN, LOAD), fracs((1, 2), 0, 1))
        self.same(left_row(fracs(2), ((frac(5), frac(3)),)), fracs(-1))
        self.same(left_row(fracs(2), ((frac(0), frac(1)), (frac(5), frac(1)))), fracs(0))
        self.same(most_at(PLAIN, frac(0)), frac(1))
        self.same(most_at(PLAIN, frac(1)), frac(1, 2))
        self.same(most_at(PLAIN, frac(3)), frac(1, 10))
        self.same(most_at(fracs(7), frac(3)), frac(7))
        self.same(least_square(PLAIN, frac(0)), fracs(1))
        self.same(least_square(PLAIN, frac(1)), fracs((1, 2), (1, 2)))
        self.same(least_square(fracs(7), frac(3)), fracs(1))
        self.assertIs(can_be_there(PLAIN, LOAD), True)
        self.assertIs(can_be_there(PLAIN, ((frac(1), frac(1, 2)),)), True)
        self.assertIs(can_be_there(PLAIN, ((frac(-1), frac(1, 2)), (frac(1), frac(1, 2)))), True)
        self.assertIs(can_be_there(PLAIN, ((frac(1), frac(51, 100)),)), False)
        self.assertIs(can_be_there(PLAIN, ((frac(0), frac(1)),)), False)
        self.same(weight_paper(PLAIN, frac(1), frac(1, 2)), ("left", (frac(1, 2), fracs(-1), fracs(0))))
        self.same(weight_paper(PLAIN, frac(0), frac(1)), ("even", fracs(1)))
        self.same(weight_paper(PLAIN, frac(0), frac(2)), ("square", fracs(1)))
        self.same(weight_paper(fracs(7), frac(3), frac(7)), ("left", None))
        self.same(weight_paper(fracs(2, 1, 1), frac(1), frac(1)), ("left", (frac(1), fracs(0), fracs(0))))
        self.same(weight_paper(fracs(7), frac(3), frac(6)), ("left", (frac(1), (), ())))
        self.same(weight_paper(fracs(7), frac(3), frac(8)), ("square", fracs(1)))

    def test_left(self):
        r = random.Random(363)
        seen = {}
        for row, _ in level_rows(364):
            for many in range(1, 5):
                load = tuple([(n, frac(worth(w), r.choice([1, 50]))) for n, w in some_share(r, many, -3, 3)])
                left = self.twice(left_row, row, load)
                self.same(left, model_left(row, load))
                told_there = self.twice(can_be_there, row, load)
                self.assertIs(told_there, model_can(left))
                seen[told_there] = seen.get(told_there, 0) + 1
        self.assertGreater(min(seen[True], seen[False]), 5)

    def test_what_is_there_can_be_there(self):
        r = random.Random(365)
        for many in range(1, 7):
            for _ in range(3):
                share = some_share(r, many, -4, 4)
                for top in range(0, 2 * many, 2):
                    row = moments(share, min(top, 8))
                    for count in range(1, min(many, 4) + 1):
                        some = sorted(r.sample(range(many), count))
                        load = tuple([share[k] for k in some])
                        self.assertIs(can_be_there(row, load), True)
                        part = tuple([(n, frac(worth(w), r.randint(1, 3))) for n, w in load])
                        self.assertIs(can_be_there(row, part), True)
                        if count == many and len(row) >= 2 * many - 1:
                            # All there is: the least bit more is too much.
                            more = load[:-1] + ((load[-1][0], frac(worth(load[-1][1]) + Fraction(1, 10 ** 9))),)
                            self.assertIs(can_be_there(row, more), False)

    def test_takes_all_away(self):
        for load in [((frac(3), frac(7)),), ((frac(0), frac(3)), (frac(1), frac(4))),
                     tuple([(frac(k), frac(7, 4)) for k in range(4)])]:
            self.assertIs(can_be_there(fracs(7), load), True)
            self.same(left_row(fracs(7), load), fracs(0))
        # Of the first moment nothing is left, of others something.
        self.same(left_row(PLAIN, ((frac(0), frac(1)),)), fracs(0, 0, 1))
        self.assertIs(can_be_there(PLAIN, ((frac(0), frac(1)),)), False)
        self.assertIs(can_be_there(PLAIN, ((frac(0), frac(2)),)), False)

    def test_most(self):
        r = random.Random(366)
        for row, ladder in level_rows(367):
            for mark in some_marks(r, ladder):
                most = self.twice(most_at, row, mark)
                self.same(most, frac(model_most(ladder, mark)))
                least = self.twice(least_square, row, mark)
                self.assertEqual(at(worths(least), worth(mark)), 1)
                self.assertLessEqual(2 * len(least) - 1, len(row))
                self.same(sum_by(row, product(least, least)), most)
                for _ in range(3):
                    # Any other one with the worth 1 there has a greater sum.
                    change = mul([-worth(mark), Fraction(1)], [worth(some_fraction(r)) for _ in range(len(ladder[1]))])
                    if change:
                        other = poly_told(add(worths(least), change))
                        self.assertGreater(worth(sum_by(row, product(other, other))), worth(most))

    def test_weights(self):
        r = random.Random(368)
        words = {}
        for row, ladder in level_rows(369):
            for mark in some_marks(r, ladder):
                most = model_most(ladder, mark)
                none_there = at(worths(rung_polys(ladder)[-1]), worth(mark)) == 0
                for weight in (most, most / 2, most * (1 - Fraction(1, 10 ** 9)), most * (1 + Fraction(1, 10 ** 9)),
                               most * 3):
                    paper = self.twice(weight_paper, row, mark, frac(weight))
                    self.assertIs(check_weight(row, mark, frac(weight), paper), paper[0])
                    left = model_left(row, ((mark, frac(weight)),))
                    self.assertIs(can_be_there(row, ((mark, frac(weight)),)), paper[0] == "left")
                    words[paper[0]] = words.get(paper[0], 0) + 1
                    if weight < most or (weight == most and not none_there):
                        self.assertEqual(paper[0], "left")
                        if len(row) == 1 and weight == most:
                            self.assertIs(paper[1], None)
                            self.same(left, fracs(0))
                        else:
                            self.same(paper[1], ladder_of(left))
                        continue
                    self.assertEqual(paper[0], "even" if weight == most else "square")
                    self.assertEqual(at(worths(paper[1]), worth(mark)), 1)
                    whole = worth(sum_by(row, product(paper[1], paper[1])))
                    self.assertTrue(whole < weight or (whole == weight and paper[0] == "even"))
        self.assertEqual(sorted(words), ["even", "left", "square"])
        self.assertGreater(min(words.values()), 3)

    def test_papers_that_hold(self):
        # Other squares than the least one do, too.
        self.assertIs(check_weight(PLAIN, frac(0), frac(3), ("square", fracs(1, 1))), "square")
        self.assertIs(check_weight(PLAIN, frac(0), frac(2), ("even", fracs(1, 1))), "even")
        self.assertIs(check_weight(PLAIN, frac(0), frac(2), ("even", fracs(1, -1))), "even")
        self.assertIs(check_weight(PLAIN, frac(0), frac(1), ("even", fracs(1))), "even")
        self.assertIs(check_weight(PLAIN, frac(1), frac(2, 3), ("square", fracs((1, 2), (1, 2)))), "square")
        self.assertIs(check_weight(fracs(7), frac(3), frac(7), ("left", None)), "left")
        self.assertIs(check_weight(PLAIN, frac(1), frac(1, 4), ("left", ladder_of(fracs((3, 4), (-1, 4), (3, 4))))),
                      "left")

    def test_papers_that_do_not_hold(self):
        none = [(PLAIN, 0, 2, ("square", fracs(1, 1))), (PLAIN, 0, 1, ("square", fracs(1))),
                (PLAIN, 0, 3, ("square", fracs(1, 2))),
                (PLAIN, 0, 9, ("square", fracs(1, 0, 1))), (PLAIN, 0, 9, ("square", fracs(2))),
                (PLAIN, 0, 9, ("square", ())),
                (PLAIN, 0, 9, ("square", fracs(0, 1))), (PLAIN, 1, 9, ("square", fracs(1, 1))),
                (fracs(1), 0, 9, ("square", fracs(1, 1))),
                (PLAIN, 0, 3, ("even", fracs(1, 1))), (PLAIN, 0, 2, ("even", fracs(1))),
                (PLAIN, 1, (1, 2), ("even", fracs((1, 2), (1, 2)))),
                (PLAIN, 0, 2, ("even", fracs(1, 0, 1))), (PLAIN, 0, (1, 2), ("even", fracs(1))),
                (PLAIN, 0, 4, ("even", fracs(2))),
                (fracs(7), 3, 7, ("even", fracs(1))), (fracs(7), 3, 7, ("left", (frac(7), (), ()))),
                (fracs(7), 3, 6, ("left", None)),
                (fracs(7), 3, 8, ("left", None)), (PLAIN, 0, 1, ("left", None)),
                (PLAIN, 0, 2, ("left", (frac(1), (), ()))),
                (PLAIN, 1, (1, 2), ("left", (frac(1, 2), fracs(-1), ()))),
                (PLAIN, 1, (1, 2), ("left", (frac(1), fracs(0), fracs(1)))),
                (PLAIN, 1, (1, 2), ("left", (frac(1, 2), fracs(-1, 5), fracs(0))))]
        for row, mark, weight, paper in none:
            weight = frac(*weight) if isinstance(weight, tuple) else frac(weight)
            self.refused(BadPaper, paper[0], check_weight, row, frac(mark), weight, paper)

    def test_never_left_beside_another(self):
        r = random.Random(370)
        for row, ladder in level_rows(371):
            for mark in some_marks(r, ladder)[:3]:
                most = model_most(ladder, mark)
                least = least_square(row, mark)
                for word in ("square", "even"):
                    self.refused(BadPaper, word, check_weight, row, mark, frac(most / 2), (word, least))
                self.refused(BadPaper, "left", check_weight, row, mark, frac(2 * most), ("left", ladder))
                self.refused(BadPaper, "left", check_weight, row, mark, frac(2 * most), ("left", None))

    def test_forms(self):
        good = ("square", fracs(1))
        wrong = [("square",), ("left",), ("even",), good + (1,), ("left", None, None), ("Square", fracs(1)),
                 ("", fracs(1)),
                 (b"square", fracs(1)), list(good), ("ladder", None), ("rest", fracs(1)), (fracs(1), "square"),
                 (None, fracs(1)),
                 (["square"], fracs(1)), ({}, 1), ({"left": 1}, None), "square", "le", {"left": None}, {"left"},
                 (True, None)]
        for paper in wrong + ANY:
            self.refused(BadPaper, "form", check_weight, PLAIN, frac(0), frac(2), paper)

    def test_wrong_things_in_papers(self):
        for thing in wrong_polys() + [()]:
            self.refused(BadPaper, "square", check_weight, PLAIN, frac(0), frac(2), ("square", thing))
            self.refused(BadPaper, "even", check_weight, PLAIN, frac(0), frac(1), ("even", thing))
        for thing in [one for one in wrong_ladders() if one is not None]:
            self.refused(BadPaper, "left", check_weight, fracs(7), frac(0), frac(6), ("left", thing))
            self.refused(BadPaper, "left", check_weight, fracs(7), frac(0), frac(7), ("left", thing))
        self.refused(BadPaper, "left", check_weight, fracs(2), frac(0), frac(1), ("left", ((True, 1), (), ())))
        self.assertIs(check_weight(fracs(2), frac(0), frac(1), ("left", (frac(1), (), ()))), "left")
        for thing in (True, False, 0, ()):
            self.refused(BadPaper, "left", check_weight, fracs(1), frac(0), frac(1), ("left", thing))

    def test_rows_refused(self):
        self.rows_refused(left_row, LOAD)
        self.rows_refused(can_be_there, LOAD)
        self.rows_refused(most_at, frac(1))
        self.rows_refused(least_square, frac(1))
        self.rows_refused(weight_paper, frac(1), frac(1))
        for paper in [("square", fracs(1)), None, ("left", None), ("square", None)]:
            self.rows_refused(check_weight, frac(1), frac(1), paper)

    def test_ahead_of_what_the_ladder_tells(self):
        for row in (fracs(1, 0, 0), fracs(1, 0), fracs(1, 0, -1), fracs(1, 0, 0, 1)):
            self.refused(BadLoad, (), left_row, row, ())
            self.refused(BadLoad, None, can_be_there, row, None)
            self.refused(BadFraction, 1, most_at, row, 1)
            self.refused(BadFraction, (2, 2), least_square, row, (2, 2))
            self.refused(BadFraction, (0, 1), weight_paper, row, frac(1), frac(0))
            self.refused(BadFraction, None, weight_paper, row, None, frac(0))
            self.refused(BadFraction, (-1, 1), check_weight, row, frac(1), frac(-1), None)

    def test_loads(self):
        for load in [((frac(1), frac(1)), (frac(0), frac(1))), ((frac(1), frac(1)), (frac(1), frac(2))),
                     ((frac(1, 2), frac(1)), (frac(1, 3), frac(1))), ((frac(0), frac(0)),), ((frac(0), frac(-1)),), (),
                     tuple([(frac(k), frac(1, 9)) for k in range(5)])]:
            self.assertIs(self.refused(BadLoad, load, left_row, PLAIN, load), load)
            self.assertIs(self.refused(BadLoad, load, can_be_there, PLAIN, load), load)
        self.same(left_row(PLAIN, ((frac(1, 3), frac(1)), (frac(1, 2), frac(1)))), fracs(-1, (-5, 6), (23, 36)))

    def test_many_figures(self):
        ladder = (frac(BIG), fracs(BIG, (1, BIG), -BIGGER, (BIGGER, BIG)), fracs(BIG, (1, BIGGER), BIGGER, (1, BIG)))
        row, mark = row_of(ladder, 8), frac(BIGGER, BIG)
        most = most_at(row, mark)
        self.same(most, frac(model_most(ladder, mark)))
        self.assertIs(can_be_there(row, ((mark, most),)), True)
        self.assertIs(can_be_there(row, ((mark, frac(worth(most) + Fraction(1, 10 ** 2000))),)), False)
        self.assertIs(check_weight(row, mark, frac(BIG, 3), weight_paper(row, mark, frac(BIG, 3))), "square")

    def test_wrong(self):
        rows, fractions = (BadRow, wrong_rows()), (BadFraction, wrong_fractions())
        loads, weights = (BadLoad, wrong_loads()), (BadFraction, wrong_above())
        self.each_refused(left_row, (PLAIN, LOAD), [rows, loads])
        self.each_refused(can_be_there, (PLAIN, LOAD), [rows, loads])
        self.each_refused(most_at, (PLAIN, frac(1)), [rows, fractions])
        self.each_refused(least_square, (PLAIN, frac(1)), [rows, fractions])
        self.each_refused(weight_paper, (PLAIN, frac(1), frac(1)), [rows, fractions, weights])
        for paper in [("left", (frac(1, 2), fracs(-1), fracs(0)))]:
            self.each_refused(lambda *args: check_weight(*args, paper), (PLAIN, frac(1), frac(1, 2)),
                              [rows, fractions, weights])
        for row in wrong_rows():
            self.assertIs(self.refused(BadRow, row, check_weight, row, frac(1), frac(1), None), row)


if __name__ == "__main__":
    unittest.main()
