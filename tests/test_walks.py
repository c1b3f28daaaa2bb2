import random
import unittest
from fractions import Fraction

from rungshare.errors import BadLadder, BadPaper, BadRates
from rungshare.ladders import row_of, rung_polys
from rungshare.polys import worth_at
from rungshare.rates import back_row, is_closed, need_rates
from rungshare.walks import check_walk, rates_of, walk_ladder, walk_paper
from samples import ANY, BIG, BIGGER, Case, frac, fracs, some_ended, some_open, worth, worths, wrong_ladders, wrong_rates
from test_rates import PAIR, rates_of_any_kind


def ended(levels, steps):
    return (frac(1), fracs(*levels), fracs(*steps, 0))


def model_ups(ladder):
    """The ups from rung 0 to the first one that is not above nought, or to the last one."""
    levels, steps = worths(ladder[1]), worths(ladder[2])
    ups = [1 - levels[0]]
    while ups[-1] > 0 and len(ups) < len(levels):
        ups.append(1 - levels[len(ups)] - steps[len(ups) - 1] / ups[-1])
    return ups


def model_papers(ladder):
    """All papers that hold, but the one with a walk."""
    found = [("stay", k) for k, level in enumerate(ladder[1]) if level[0] < 0]
    ups = model_ups(ladder)
    if ups[-1] < 0 or (ups[-1] == 0 and len(ups) < len(ladder[1])):
        found.append(("up", len(ups) - 1))
    return found


def some_small(r, many):
    """Ended ladders that are often, not always, of rates."""
    levels = [Fraction(r.randint(-1, 4), r.randint(3, 8)) for _ in range(many)]
    steps = [Fraction(r.randint(1, 3), r.randint(4, 16)) for _ in range(many - 1)]
    return ended(levels, steps)


def ladders_of_any_kind(seed):
    r = random.Random(seed)
    found = [walk_ladder(rates) for rates in rates_of_any_kind(seed)]
    for many in range(1, 6):
        found += [some_small(r, many) for _ in range(25)]
        found += [(frac(1),) + some_ended(r, many)[1:] for _ in range(3)]
    return found + [ended([1], []), ended([2], []), ended([0], []), ended([-1], []), ended([1, 0], [1]), ended([0, 0], [1]),
                    ended([0, 0, 0], [1, 1]), ended([0, 0, 0], [(1, 2), (1, 2)]), ended([(1, 2), -1], [5]),
                    ended([0, 0, 0, 0, 0], [(1, 2), (1, 4), (1, 4), (1, 2)]), ended([-1, 3], [1])]


class Walks(Case):

    def test_known(self):
        self.same(walk_ladder(PAIR), ended([(1, 2), (1, 4)], [(1, 4)]))
        self.same(walk_ladder((fracs((1, 3), (2, 3), 0),)), ended([(2, 3)], []))
        self.same(rates_of(ended([(1, 2), (1, 4)], [(1, 4)])), PAIR)
        self.same(walk_paper(ended([1], [])), ("walk", (fracs(0, 1, 0),)))
        self.same(walk_paper(ended([0], [])), ("walk", (fracs(1, 0, 0),)))
        self.same(walk_paper(ended([2], [])), ("up", 0))
        self.same(walk_paper(ended([-1], [])), ("stay", 0))
        self.same(walk_paper(ended([1, 0], [1])), ("up", 0))
        self.same(walk_paper(ended([0, 0], [1])), ("walk", (fracs(1, 0, 0), fracs(0, 0, 1))))
        self.same(walk_paper(ended([0, 0, 0], [1, 1])), ("up", 1))
        self.same(walk_paper(ended([0, 0], [2])), ("up", 1))
        self.same(rates_of(ended([0, 0], [2])), None)

    def test_rates(self):
        for rates in rates_of_any_kind(271):
            ladder = self.twice(walk_ladder, rates)
            ups, stays, downs = [[worth(rung[k]) for rung in rates] for k in range(3)]
            products = [up * down for up, down in zip(ups, downs[1:])]
            self.same(ladder, ended(stays, products))
            self.same(row_of(ladder, 8), back_row(rates, 8))
            self.same(self.twice(rates_of, ladder), rates)
            self.same(self.twice(walk_paper, ladder), ("walk", rates))
            self.assertIs(self.twice(check_walk, ladder, ("walk", rates)), "walk")
            polys = rung_polys(ladder)
            worths_at = [worth(worth_at(poly, frac(1))) for poly in polys]
            for k, up in enumerate(ups):
                self.assertEqual(up, worths_at[k + 1] / worths_at[k])
            self.assertIs(is_closed(rates), worths_at[-1] == 0)

    def test_papers(self):
        kinds = {}
        for ladder in ladders_of_any_kind(272):
            wrong = model_papers(ladder)
            worths_at = [worth(worth_at(poly, frac(1))) for poly in rung_polys(ladder)]
            are_good = min(worths(ladder[1])) >= 0 and min(worths_at[:-1]) > 0 and worths_at[-1] >= 0
            paper = self.twice(walk_paper, ladder)
            self.assertIs(paper[0] == "walk", are_good)
            self.assertIs(check_walk(ladder, paper), paper[0])
            kinds[(paper[0], len(wrong) > 1)] = True
            if are_good:
                self.assertEqual(wrong, [])
                self.same(rates_of(ladder), need_rates(paper[1]))
                self.same(walk_ladder(paper[1]), ladder)
            else:
                self.assertIn(paper, wrong)
                self.assertIs(rates_of(ladder), None)
            for word in ("stay", "up"):
                for number in range(-2, 7):
                    if (word, number) in wrong:
                        self.assertIs(self.twice(check_walk, ladder, (word, number)), word)
                    else:
                        self.refused(BadPaper, word, check_walk, ladder, (word, number))
            for rates in rates_of_any_kind(273, 1):
                if walk_ladder(rates) != ladder:
                    self.refused(BadPaper, "walk", check_walk, ladder, ("walk", rates))
        self.assertEqual(sorted(kinds), [("stay", False), ("stay", True), ("up", False), ("walk", False)])

    def test_both_words(self):
        ladder = ended([3, -1], [1])
        self.assertIn(walk_paper(ladder), [("stay", 1), ("up", 0)])
        self.assertIs(check_walk(ladder, ("stay", 1)), "stay")
        self.assertIs(check_walk(ladder, ("up", 0)), "up")
        self.refused(BadPaper, "up", check_walk, ladder, ("up", 1))
        self.refused(BadPaper, "stay", check_walk, ladder, ("stay", 0))

    def test_forms(self):
        ladder, good = walk_ladder(PAIR), ("walk", PAIR)
        wrong = [list(good), good + (1,), good[:1], ("Walk", PAIR), ("ladder", PAIR), ("", PAIR), (b"walk", PAIR),
                 (None, PAIR), (("walk",), PAIR), (["walk"], PAIR), PAIR, ("stay",), ("up", 1, 1), (True, 1), {"up": 1},
                 "up", "stay", ({}, 1)]
        for paper in wrong + ANY:
            self.refused(BadPaper, "form", check_walk, ladder, paper)
        for thing in wrong_rates():
            self.refused(BadPaper, "walk", check_walk, ladder, ("walk", thing))
        self.refused(BadPaper, "walk", check_walk, ended([1], []), ("walk", (((0, 1), (True, 1), (0, 1)),)))
        self.refused(BadPaper, "walk", check_walk, ladder, ("walk", list(PAIR)))
        for thing in ANY + [True, "0", (0,), [0]]:
            if not isinstance(thing, int) or isinstance(thing, bool):
                self.refused(BadPaper, "stay", check_walk, ended([-1, -1], [1]), ("stay", thing))
                self.refused(BadPaper, "up", check_walk, ended([2], []), ("up", thing))
        # False is equal to 0, and no number of a rung.
        self.assertIs(check_walk(ended([2], []), ("up", 0)), "up")
        self.assertIs(check_walk(ended([-1, -1], [1]), ("stay", 1)), "stay")

    def test_many_figures(self):
        rates = ((frac(1, BIG), frac(BIG - 1, BIG), frac(0)), (frac(1, BIGGER), frac(BIGGER - 2, BIGGER), frac(1, BIGGER)),
                 (frac(0), frac(1, 3), frac(2, 3)))
        self.same(rates_of(walk_ladder(rates)), rates)
        total, levels, steps = walk_ladder(rates)
        higher = (total, levels[:2] + (frac(Fraction(1, 3) + Fraction(1, BIG)),), steps)
        self.same(walk_paper(higher), ("up", 2))

    def test_wrong(self):
        r = random.Random(274)
        others = [some_open(r, many, many) for many in range(5)] + [some_open(r, many + 1, many) for many in range(4)]
        others = [(frac(1),) + ladder[1:] for ladder in others]
        others += [(frac(2), fracs(0), fracs(0)), (frac(1, 2), fracs(0, 0), fracs(1, 0)), (frac(BIG), fracs(1), fracs(0))]
        bad = (BadLadder, wrong_ladders() + others)
        good = walk_ladder(PAIR)
        for deed in (rates_of, walk_paper):
            self.each_refused(deed, (good,), [bad])
        for thing in bad[1]:
            for paper in (None, (), ("walk", PAIR), ("up", 0)):
                self.assertIs(self.refused(BadLadder, thing, check_walk, thing, paper), thing)
        self.each_refused(walk_ladder, (PAIR,), [(BadRates, wrong_rates())])


if __name__ == "__main__":
    unittest.main()
