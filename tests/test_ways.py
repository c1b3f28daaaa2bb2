import random
import unittest
from fractions import Fraction
from itertools import product

from rungshare.errors import BadLadder, BadNumber, BadWay, Missing
from rungshare.ways import all_ways, heights_of, way_worth
from samples import BIG, Case, frac, fracs, is_open, ladders, some_ended, some_open, worths, wrong_ladders, wrong_numbers
from samples import wrong_ways

MANY = {}


def model_heights(start, way):
    return [start + sum(way[:k]) for k in range(len(way) + 1)]


def model_ways(start, many):
    """All ways of so many steps from a height."""
    if (start, many) not in MANY:
        MANY[(start, many)] = [way for way in product((-1, 0, 1), repeat=many) if min(model_heights(start, way)) >= 0]
    return MANY[(start, many)]


def model_worth(ladder, start, way):
    """The worth of a way, None if it has none."""
    levels, steps = worths(ladder[1]), worths(ladder[2])
    heights = model_heights(start, way)
    if not is_open(ladder) and max(heights) >= len(levels):
        return Fraction(0)
    whole = Fraction(1)
    for height, step in zip(heights, way):
        table = {0: dict(enumerate(levels)), -1: dict(enumerate(steps, 1))}.get(step)
        if table is not None:
            if height not in table:
                return None
            whole *= table[height]
    return whole


def some_ways(r, start, rounds):
    found = [()]
    while len(found) < rounds:
        way = tuple([r.choice([-1, 0, 1]) for _ in range(r.randint(0, 8))])
        if min(model_heights(start, way)) >= 0:
            found.append(way)
    return found


class Ways(Case):

    def test_known(self):
        self.same(all_ways(0, 0, 0), ((),))
        self.same(all_ways(4, 4, 0), ((),))
        self.same(all_ways(4, 3, 0), ())
        self.same(all_ways(0, 0, 1), ((0,),))
        self.same(all_ways(0, 0, 2), ((0, 0), (1, -1)))
        self.same(all_ways(1, 0, 1), ((-1,),))
        self.same(all_ways(1, 1, 2), ((-1, 1), (0, 0), (1, -1)))
        self.same(all_ways(0, 4, 3), ())
        self.same(all_ways(4, 0, 4), ((-1, -1, -1, -1),))
        self.same(heights_of(4, ()), (4,))
        self.same(heights_of(0, (1, 0, 1, -1)), (0, 1, 1, 2, 1))
        self.same(heights_of(4, (1, 1, 1, 1, 1, 1, 1, 1)), (4, 5, 6, 7, 8, 9, 10, 11, 12))
        self.assertEqual([len(all_ways(0, 0, many)) for many in range(9)], [1, 1, 2, 4, 9, 21, 51, 127, 323])

    def test_all(self):
        for start in range(5):
            for stop in range(5):
                for many in range(9):
                    wanted = tuple(sorted([way for way in model_ways(start, many) if start + sum(way) == stop]))
                    self.same(all_ways(start, stop, many), wanted)
        self.twice(all_ways, 3, 4, 8)

    def test_heights(self):
        r = random.Random(221)
        for start in range(5):
            for way in some_ways(r, start, 30):
                self.same(self.twice(heights_of, start, way), tuple(model_heights(start, way)))

    def test_worths(self):
        r = random.Random(222)
        seen = {}
        for ladder in ladders(222, 2):
            for start in range(5):
                for way in some_ways(r, start, 40):
                    wanted = model_worth(ladder, start, way)
                    seen[(is_open(ladder), wanted is None, wanted == 0)] = True
                    if wanted is None:
                        self.assertIs(self.refused(Missing, way, way_worth, ladder, start, way), way)
                    else:
                        self.same(self.twice(way_worth, ladder, start, way), frac(wanted))
        self.assertEqual(len(seen), 5)

    def test_ended(self):
        r = random.Random(223)
        for many in range(1, 6):
            ladder = some_ended(r, many)
            for start in range(many, 5):
                for way in [(), (0,), (1,), (-1,), (-1, 0), (1, 1, 1, -1, 0, 0)]:
                    self.same(way_worth(ladder, start, way), frac(0))
            self.same(way_worth(ladder, many - 1, ()), frac(1))
            self.same(way_worth(ladder, many - 1, (0,)), ladder[1][-1])
            self.same(way_worth(ladder, many - 1, (1,)), frac(0))
            self.same(way_worth(ladder, many - 1, (1, 0, 0, -1)), frac(0))
            self.same(way_worth(ladder, 0, (1,) * many), frac(0))
            self.same(way_worth(ladder, 0, (1,) * (many - 1)), frac(1))

    def test_open(self):
        r = random.Random(224)
        for many in range(5):
            ladder = some_open(r, many, many)
            for start in range(many, 5):
                self.assertIs(type(self.refused(Missing, (0,), way_worth, ladder, start, (0,))), tuple)
                self.refused(Missing, (0, 1, -1), way_worth, ladder, start, (0, 1, -1))
                self.refused(Missing, (1, -1), way_worth, ladder, start, (1, -1))
                self.same(way_worth(ladder, start, (1, 1, 1, 1)), frac(1))
                self.same(way_worth(ladder, start, ()), frac(1))
            if many > 0:
                self.same(way_worth(ladder, many, (-1, 1)), ladder[2][-1])
                self.same(way_worth(ladder, many - 1, (0,)), ladder[1][-1])
            if 0 < many < 4:
                ladder = some_open(r, many + 1, many)
                self.same(way_worth(ladder, many, (0,)), ladder[1][-1])
                self.same(way_worth(ladder, many, (-1, 1)), ladder[2][-1])
                self.refused(Missing, (1, -1), way_worth, ladder, many, (1, -1))
                self.refused(Missing, (-1,), way_worth, ladder, many + 1, (-1,))
        # What there is would come to nought.
        ladder = (frac(1), fracs(0), fracs(1))
        self.refused(Missing, (0, 1, 0), way_worth, ladder, 0, (0, 1, 0))
        self.refused(Missing, (0, 1, 1, -1), way_worth, ladder, 0, (0, 1, 1, -1))
        self.same(way_worth(ladder, 0, (0, 1, 1)), frac(0))

    def test_many_figures(self):
        ladder = (frac(1), fracs(BIG, (1, BIG)), fracs(BIG, (1, BIG - 2)))
        self.same(way_worth(ladder, 0, (0, 0, 1, -1, 1, 1, -1, -1)), frac(Fraction(BIG ** 4, BIG - 2)))

    def test_wrong(self):
        heights, many = (BadNumber, wrong_numbers(0, 4)), (BadNumber, wrong_numbers(0, 8))
        self.each_refused(all_ways, (0, 1, 2), [heights, heights, many])
        for start in range(5):
            self.each_refused(heights_of, (start, (1, -1)), [heights, (BadWay, wrong_ways(start))])
        good = ((frac(1), fracs(1, 2), fracs(1, 2)), 1, (0, -1))
        self.each_refused(way_worth, good, [(BadLadder, wrong_ladders()), heights, (BadWay, wrong_ways(1))])


if __name__ == "__main__":
    unittest.main()
