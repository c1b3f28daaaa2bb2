import random
import unittest
from fractions import Fraction

from rungshare.errors import BadFraction, BadNumber, BadPart, BadString
from rungshare.leaks import grown_string, leak_at
from rungshare.strings import answer_at, need_string
from rungshare.tones import tones_below
from samples import ANY, BIG, BIGGER, Case, frac, fracs, some_above, worth, worths, wrong_above, wrong_numbers
from samples import wrong_strings
from test_strings import PAIR, some_strings


def model_leak(string, mark):
    leak = Fraction(0)
    for gap, bead in zip(worths(string[0]), worths(string[1])):
        leak = 1 / (1 / (leak + gap) + worth(mark) * bead)
    return frac(leak)


class Leaks(Case):

    def test_known(self):
        self.same(leak_at((fracs(2), fracs(3)), frac(1)), frac(2, 7))
        self.same(leak_at(PAIR, frac(1)), frac(3, 5))
        self.same(grown_string(PAIR, "gap", 0, frac(1, 2)), (fracs((3, 2), 1), fracs(1, 1)))
        self.same(grown_string(PAIR, "gap", 1, frac(1, 2)), (fracs(1, (3, 2)), fracs(1, 1)))
        self.same(grown_string(PAIR, "bead", 0, frac(1, 2)), (fracs(1, 1), fracs((3, 2), 1)))
        self.same(grown_string(PAIR, "bead", 1, frac(1, 2)), (fracs(1, 1), fracs(1, (3, 2))))

    def test_leaks(self):
        r = random.Random(301)
        for string in some_strings(301):
            for mark in [frac(1), frac(1, 100), frac(100)] + [some_above(r) for _ in range(4)]:
                leak = self.twice(leak_at, string, mark)
                self.same(leak, model_leak(string, mark))
                self.same(leak, answer_at(string, (-mark[0], mark[1])))
                self.assertGreater(sum(worths(string[0])), worth(leak))

    def test_grown(self):
        r = random.Random(302)
        for string in some_strings(302):
            for place, part in enumerate(("gap", "bead")):
                for number in range(len(string[0])):
                    mark = some_above(r)
                    grown = self.twice(grown_string, string, part, number, mark)
                    need_string(grown)
                    self.same(grown[1 - place], string[1 - place])
                    wanted = list(string[place])
                    wanted[number] = frac(worth(wanted[number]) + worth(mark))
                    self.same(grown[place], tuple(wanted))
                    # No tone grows.
                    for at in (frac(1, 20), frac(1, 4), frac(1), frac(3), frac(20)):
                        self.assertGreaterEqual(tones_below(grown, at), tones_below(string, at))

    def test_many_figures(self):
        string = (fracs(BIG, (1, BIG), BIGGER), fracs((1, BIGGER), BIG, (2, BIG)))
        self.same(leak_at(string, frac(BIG, BIGGER)), model_leak(string, frac(BIG, BIGGER)))

    def test_wrong(self):
        strings, marks = (BadString, wrong_strings()), (BadFraction, wrong_above())
        self.each_refused(leak_at, (PAIR, frac(1)), [strings, marks])
        parts = ANY + ["Gap", "gap ", "ga", "gapbead", "beads", "BEAD", b"gap", ["gap"], ("gap",), {"gap"}, {"bead": 1}]
        good = (PAIR, "bead", 1, frac(1))
        self.each_refused(grown_string, good, [strings, (BadPart, parts), (BadNumber, wrong_numbers(0, 1)), marks])
        for string in some_strings(303, 1):
            many = len(string[0])
            self.refused(BadNumber, many, grown_string, string, "gap", many, frac(1))
            self.refused(BadNumber, many, grown_string, string, "bead", many, frac(0))


if __name__ == "__main__":
    unittest.main()
