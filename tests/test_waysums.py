import random
import unittest
from fractions import Fraction

from rungshare.errors import BadLadder, BadNumber, BadRow, Missing, NoShare
from rungshare.ladders import row_of
from rungshare.rowshares import row_paper
from rungshare.waysums import ladder_by_ways, row_by_ways, way_sum
from samples import BIG, BIGGER, Case, frac, fracs, is_open, ladders, last_of, rows_of_any_kind, some_ended, some_open
from samples import some_share, worth, wrong_ladders, wrong_numbers, wrong_rows
from rungshare.rows import moments
from test_ways import model_ways, model_worth


def model_sum(ladder, start, stop, many):
    """The way sum by all ways, None where there is none."""
    found = [model_worth(ladder, start, way) for way in model_ways(start, many) if start + sum(way) == stop]
    return None if None in found else sum(found, Fraction(0))


class WaySums(Case):

    def test_known(self):
        ladder = (frac(7), fracs(2, 3), fracs(5))
        self.same(way_sum(ladder, 0, 0, 0), frac(1))
        self.same(way_sum(ladder, 0, 0, 1), frac(2))
        self.same(way_sum(ladder, 0, 0, 2), frac(9))
        self.same(way_sum(ladder, 0, 0, 3), frac(43))
        self.same(way_sum(ladder, 0, 1, 2), frac(5))
        self.same(way_sum(ladder, 1, 0, 2), frac(25))
        self.same(way_sum(ladder, 0, 2, 2), frac(1))
        self.same(way_sum(ladder, 4, 4, 0), frac(1))
        self.same(way_sum(ladder, 0, 4, 4), frac(1))
        self.same(way_sum(ladder, 0, 4, 3), frac(0))
        self.same(way_sum(ladder, 4, 0, 3), frac(0))
        self.refused(Missing, 4, way_sum, ladder, 4, 0, 4)
        self.refused(Missing, 4, way_sum, ladder, 0, 0, 4)
        self.refused(Missing, 2, way_sum, ladder, 1, 1, 2)
        self.same(row_by_ways(ladder, 3), fracs(7, 14, 63, 301))

    def test_all(self):
        r = random.Random(231)
        found = [(frac(1), (), ()), some_open(r, 1, 0), some_open(r, 1, 1), some_open(r, 2, 1), some_open(r, 3, 3),
                 some_open(r, 4, 4), some_ended(r, 1), some_ended(r, 2), some_ended(r, 4), some_ended(r, 5)]
        for ladder in found:
            for start in range(5):
                for stop in range(5):
                    for many in range(6):
                        wanted = model_sum(ladder, start, stop, many)
                        if wanted is None:
                            self.refused(Missing, many, way_sum, ladder, start, stop, many)
                        else:
                            self.same(way_sum(ladder, start, stop, many), frac(wanted))

    def test_long(self):
        r = random.Random(232)
        kinds = {}
        for ladder in ladders(232, 2):
            for _ in range(6):
                start, stop, many = r.randint(0, 4), r.randint(0, 4), r.randint(6, 8)
                wanted = model_sum(ladder, start, stop, many)
                kinds[(is_open(ladder), wanted is None)] = True
                if wanted is None:
                    self.refused(Missing, many, way_sum, ladder, start, stop, many)
                else:
                    self.same(self.twice(way_sum, ladder, start, stop, many), frac(wanted))
        self.assertEqual(len(kinds), 3)

    def test_open_or_not(self):
        # A sum is there as long as no way of it takes what the ladder lacks, wherever it starts and stops.
        levels, steps = fracs(0, 0, 0, 0), fracs(1, 1, 1, 1)
        for many_levels in range(5):
            for many_steps in (many_levels, many_levels - 1):
                if many_steps < 0:
                    continue
                ladder = (frac(1), levels[:many_levels], steps[:many_steps])
                for start in range(5):
                    for stop in range(5):
                        for many in range(5):
                            wanted = model_sum(ladder, start, stop, many)
                            if wanted is None:
                                self.refused(Missing, many, way_sum, ladder, start, stop, many)
                            else:
                                self.same(way_sum(ladder, start, stop, many), frac(wanted))

    def test_rows(self):
        for ladder in ladders(233):
            last = last_of(ladder)
            for top in range(last + 1):
                self.same(self.twice(row_by_ways, ladder, top), row_of(ladder, top))
            for many in range(9):
                # The moment is there exactly if the way sum is.
                if many > last:
                    self.refused(Missing, many, way_sum, ladder, 0, 0, many)
                    self.refused(BadNumber, many, row_by_ways, ladder, many)
                else:
                    moment = worth(ladder[0]) * worth(way_sum(ladder, 0, 0, many))
                    self.same(row_of(ladder, last)[many], frac(moment))

    def test_told_back(self):
        for ladder in ladders(234):
            last = last_of(ladder)
            for top in range(len(ladder[1]) + len(ladder[2]), last + 1):
                self.same(self.twice(ladder_by_ways, row_of(ladder, top)), ladder if top <= last else None)
        r = random.Random(234)
        for many in range(1, 7):
            for top in range(9):
                row = moments(some_share(r, many), top)
                self.same(ladder_by_ways(row), row_paper(row)[1])

    def test_no_share(self):
        words = {}
        for row in rows_of_any_kind(235, 40):
            paper = row_paper(row)
            words[paper[0]] = True
            if paper[0] == "ladder":
                self.same(ladder_by_ways(row), paper[1])
            else:
                self.refused(NoShare, paper, ladder_by_ways, row)
        self.assertEqual(sorted(words), ["ladder", "rest", "square"])

    def test_many_figures(self):
        ladder = (frac(BIG), fracs(BIG, (1, BIG), -BIGGER, (BIGGER, BIG)), fracs(BIG, (1, BIGGER), BIGGER, (1, BIG)))
        row = row_by_ways(ladder, 8)
        self.same(row, row_of(ladder, 8))
        self.same(ladder_by_ways(row), ladder)
        self.same(way_sum(ladder, 2, 1, 5), frac(model_sum(ladder, 2, 1, 5)))

    def test_wrong(self):
        all_ladders, heights = (BadLadder, wrong_ladders()), (BadNumber, wrong_numbers(0, 4))
        good = (frac(1), fracs(1, 2), fracs(1, 2))
        self.each_refused(way_sum, (good, 0, 0, 2), [all_ladders, heights, heights, (BadNumber, wrong_numbers(0, 8))])
        self.each_refused(row_by_ways, (good, 4), [all_ladders, (BadNumber, wrong_numbers(0, 4))])
        ended = (frac(1), fracs(1, 2), fracs(1, 0))
        self.each_refused(row_by_ways, (ended, 8), [all_ladders, (BadNumber, wrong_numbers(0, 8))])
        self.each_refused(ladder_by_ways, (fracs(1, 2, 5),), [(BadRow, wrong_rows())])


if __name__ == "__main__":
    unittest.main()
