import random
import unittest
from fractions import Fraction

from rungshare.errors import BadFraction, BadShare, BadString
from rungshare.rows import need_share
from rungshare.signs import roots_in
from rungshare.strings import answer_at, need_string, string_polys
from rungshare.tones import share_of_string, string_of_share, tones_below
from samples import BIG, BIGGER, Case, frac, fracs, some_fraction, some_share, worth, worths, wrong_fractions
from samples import wrong_shares, wrong_strings
from test_strings import PAIR, some_strings

KNOWN = ((frac(1), frac(1, 4)), (frac(2), frac(1, 4)))


class Tones(Case):

    def test_known(self):
        self.same(share_of_string((fracs(2), fracs(3))), ((frac(1, 6), frac(1, 3)),))
        self.same(string_of_share(((frac(1, 6), frac(1, 3)),)), (fracs(2), fracs(3)))
        self.same(share_of_string(PAIR), None)
        self.same(tones_below(PAIR, frac(1)), 1)
        self.same(tones_below(PAIR, frac(3)), 2)
        self.same(tones_below((fracs(2), fracs(3)), frac(1, 6)), 0)
        self.same(tones_below((fracs(2), fracs(3)), frac(1, 5)), 1)
        self.same(string_of_share(KNOWN), (fracs((1, 24), (1, 3)), fracs(18, 2)))

    def test_shares(self):
        r = random.Random(321)
        for many in range(1, 6):
            for _ in range(6):
                share = some_share(r, many, 1, 9)
                string = self.twice(string_of_share, share)
                self.assertEqual(len(need_string(string)[0]), many)
                self.same(self.twice(share_of_string, string), share)
                weights = [worth(weight) for _, weight in share]
                numbers = [worth(number) for number, _ in share]
                self.assertEqual(sum(weights), 1 / worth(string[1][-1]))
                self.assertEqual(sum([w / n for w, n in zip(weights, numbers)]), sum(worths(string[0])))
                for _ in range(4):
                    mark = some_fraction(r)
                    if worth(mark) in numbers:
                        self.assertIs(answer_at(string, mark), None)
                    else:
                        whole = sum([w / (n - worth(mark)) for w, n in zip(weights, numbers)])
                        self.same(answer_at(string, mark), frac(whole))

    def test_below(self):
        r = random.Random(322)
        for many in range(1, 6):
            for _ in range(4):
                share = some_share(r, many, 1, 9)
                string = string_of_share(share)
                numbers = [worth(number) for number, _ in share]
                marks = [frac(n) for n in numbers] + [frac(0), frac(-1), frac(-BIG), frac(BIG), frac(1, BIG)]
                marks += [frac((a + b) / 2) for a, b in zip(numbers, numbers[1:])]
                marks += [frac(n + Fraction(k, 10 ** 9)) for n in numbers for k in (1, -1)]
                for mark in marks + [some_fraction(r) for _ in range(4)]:
                    wanted = len([n for n in numbers if n < worth(mark)])
                    self.same(self.twice(tones_below, string, mark), wanted)

    def test_no_fractions(self):
        seen = {}
        for string in some_strings(323):
            share = self.twice(share_of_string, string)
            seen[share is None] = True
            slant = string_polys(string)[1]
            for mark in (frac(1, 10), frac(1, 2), frac(2), frac(10)):
                at = roots_in(slant, frac(-1), mark)
                # A tone that is the mark itself is not below it.
                at -= int(answer_at(string, mark) is None)
                self.same(tones_below(string, mark), at)
            if share is not None:
                self.same(string_of_share(need_share(share)), string)
        self.assertEqual(sorted(seen), [False, True])
        # One tone is a fraction, two are none.
        string = (fracs(1, 1, 1), fracs(1, 1, 1))
        self.same(share_of_string(string), None)
        self.same(tones_below(string, frac(2)), 2)

    def test_too_many(self):
        r = random.Random(324)
        six = some_share(r, 6, 1, 9)
        self.assertIs(self.refused(BadShare, six, string_of_share, six), six)
        self.same(share_of_string(string_of_share(six[:5])), six[:5])
        for low in (frac(0), frac(-1), frac(-1, BIG)):
            for many in range(5):
                share = ((low, frac(1)),) + some_share(r, many, 1, 9)
                self.assertIs(self.refused(BadShare, share, string_of_share, share), share)

    def test_many_figures(self):
        share = tuple([(number, frac(BIG - k, BIGGER)) for k, number in
                       enumerate(fracs((1, BIG), (BIGGER, BIG), 1, BIGGER, BIG))])
        string = string_of_share(share)
        self.same(share_of_string(string), share)
        self.same(tones_below(string, frac(1)), 2)

    def test_wrong(self):
        strings = (BadString, wrong_strings())
        self.each_refused(share_of_string, (PAIR,), [strings])
        self.each_refused(tones_below, (PAIR, frac(1)), [strings, (BadFraction, wrong_fractions())])
        self.each_refused(string_of_share, (KNOWN,), [(BadShare, wrong_shares())])


if __name__ == "__main__":
    unittest.main()
