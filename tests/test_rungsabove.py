import random
import unittest
from fractions import Fraction

from rungshare.errors import BadLadder, BadNumber, Missing
from rungshare.ladders import need_ladder, row_of
from rungshare.rungsabove import cut_at, ladder_above
from rungshare.waysums import way_sum
from samples import BIG, Case, frac, fracs, is_open, ladders, last_of, some_ended, some_open, worth, wrong_ladders
from samples import wrong_numbers


class RungsAbove(Case):

    def test_known(self):
        self.same(ladder_above((frac(5), fracs(1, 2), fracs(3))), (frac(1), fracs(2), ()))
        self.same(ladder_above((frac(5), fracs(1, 2), fracs(3, 4))), (frac(1), fracs(2), fracs(4)))
        self.same(ladder_above((frac(5), fracs(1, 2), fracs(3, 0))), (frac(1), fracs(2), fracs(0)))
        self.same(cut_at((frac(5), fracs(1), ()), 0), (frac(5), fracs(1), fracs(0)))
        self.same(cut_at((frac(5), fracs(1, 2), fracs(3, 4)), 0), (frac(5), fracs(1), fracs(0)))
        self.same(cut_at((frac(5), fracs(1, 2), fracs(3, 4)), 1), (frac(5), fracs(1, 2), fracs(3, 0)))

    def test_above(self):
        for ladder in ladders(251):
            if len(ladder[1]) < 2:
                self.refused(Missing, 1, ladder_above, ladder)
                continue
            above = self.twice(ladder_above, ladder)
            self.same(need_ladder(above), (frac(1), ladder[1][1:], ladder[2][1:]))
            sums, others = [], []
            for some, one in ((sums, ladder), (others, above)):
                for number in range(last_of(one) + 1):
                    some.append(worth(way_sum(one, 0, 0, number)))
            for number in range(1, len(sums)):
                whole = worth(ladder[1][0]) * sums[number - 1]
                if number >= 2:
                    whole += worth(ladder[2][0]) * sum([others[k] * sums[number - 2 - k] for k in range(number - 1)])
                self.assertEqual(sums[number], whole)

    def test_cut(self):
        for ladder in ladders(252):
            if not is_open(ladder):
                for height in range(len(ladder[1])):
                    self.assertIs(self.refused(BadLadder, ladder, cut_at, ladder, height), ladder)
                continue
            for height in range(len(ladder[1])):
                cut = self.twice(cut_at, ladder, height)
                self.same(need_ladder(cut), (ladder[0], ladder[1][:height + 1], ladder[2][:height] + fracs(0)))
                far = min(2 * height + 1, last_of(ladder))
                self.same(row_of(cut, far), row_of(ladder, far))
                if last_of(ladder) > far:
                    self.assertNotEqual(row_of(cut, far + 1), row_of(ladder, far + 1))
            self.refused(BadNumber, len(ladder[1]), cut_at, ladder, len(ladder[1]))
            self.refused(BadNumber, -1, cut_at, ladder, -1)

    def test_one_level_or_none(self):
        r = random.Random(253)
        for ladder in [some_open(r, 0, 0), some_open(r, 1, 0), some_open(r, 1, 1), some_ended(r, 1)]:
            self.refused(Missing, 1, ladder_above, ladder)
        self.same(worth(ladder_above((frac(1), fracs(0, BIG), fracs(Fraction(1, BIG))))[1][0]), Fraction(BIG))

    def test_wrong(self):
        ended = [some_ended(random.Random(254), many) for many in range(1, 6)]
        self.each_refused(ladder_above, ((frac(1), fracs(1, 2), fracs(1)),), [(BadLadder, wrong_ladders())])
        all_ladders = (BadLadder, wrong_ladders() + ended)
        self.each_refused(cut_at, ((frac(1), fracs(1, 2), fracs(1)), 1), [all_ladders, (BadNumber, wrong_numbers(0, 1))])
        for height in wrong_numbers(0, -1) + [0]:
            self.assertIs(self.refused(BadNumber, height, cut_at, (frac(1), (), ()), height), height)


if __name__ == "__main__":
    unittest.main()
