import random
import unittest

from rungshare.errors import BadPaper, BadPoly
from rungshare.ladders import rung_polys
from rungshare.toandfro import check_pair, do_go, pair_paper
from samples import ANY, BIG, BIGGER, Case, add, frac, fracs, from_roots, ladders, mul, poly_told, some_numbers, told
from samples import times_polys, worth, worths, wrong_ladders, wrong_polys

IMAGES = fracs(1, 0, 1)
ONE = fracs(1)


def wrong_tops():
    return wrong_polys() + [(), ONE, fracs(2), fracs(1, 2), fracs(1, -1), fracs(0, 0, 2), fracs(0, 0, 0, 0, -1),
                            fracs(0, 0, 0, 0, 0, 1), fracs(*[0] * 11 + [1]), fracs(0, 0, 0, 0, (1, 2))]


def wrong_lows():
    """What is no other one of a polynomial of the degree 2."""
    return wrong_polys() + [(), ONE, fracs(2), fracs(1, 2), fracs(1, -1), fracs(0, 0, 1), fracs(0, 0, 0, 1),
                            fracs(0, (1, 2)), fracs(*[0] * 11 + [1])]


def model_turn(poly, other):
    """The turn that fails, None if none does, by the words of the document."""
    one, two, turn = worths(poly), worths(other), 1
    while len(two) > 1:
        level = two[-2] - one[-2]
        left = add(mul(add([worth((0, 1)), worth((1, 1))], [-level]), two), [-part for part in one])
        if len(left) != len(two) - 1 or left[-1] <= 0:
            return turn
        one, two, turn = two, [part / left[-1] for part in left], turn + 1
    return None


class ToAndFro(Case):

    def test_known(self):
        self.same(pair_paper(fracs(5, 1), ONE), ("ladder", (frac(1), fracs(-5), ())))
        self.same(pair_paper(fracs(-2, 0, 1), fracs(0, 1)), ("ladder", (frac(1), fracs(0, 0), fracs(2))))
        self.same(pair_paper(IMAGES, fracs(0, 1)), ("turn", 1))
        self.same(pair_paper(from_roots(1, 3), fracs(-1, 1)), ("turn", 1))
        self.same(pair_paper(from_roots(1, 3), fracs(-4, 1)), ("turn", 1))
        self.same(pair_paper(from_roots(1, 1), fracs(-1, 1)), ("turn", 1))
        self.same(pair_paper(from_roots(1, 3), fracs(-2, 1)), ("ladder", (frac(1), fracs(2, 2), fracs(1))))
        # The rest of these is of a degree that is less by more than one.
        self.same(pair_paper(fracs(5, -2, 0, 1), fracs(-2, 0, 1)), ("turn", 1))
        self.same(pair_paper(fracs(0, -3, 0, 1), fracs(1, 0, 1)), ("turn", 2))
        self.same(pair_paper(fracs(0, 0, -1, 0, 1), fracs(0, 0, 0, 1)), ("turn", 2))

    def test_roots_between(self):
        r = random.Random(71)
        for _ in range(60):
            many = r.randint(1, 4)
            roots = worths(some_numbers(r, many))
            part = worth((r.randint(1, 9), 10))
            between = [a + (b - a) * part for a, b in zip(roots, roots[1:])]
            poly = from_roots(*told(roots))
            other = from_roots(*told(between))
            self.assertIs(self.twice(do_go, poly, other), True)
            self.same(rung_polys(pair_paper(poly, other)[1])[-2:], (other, poly))
            for place in range(many - 1):
                # A root at a neighbour, or beyond it, is not between the two.
                for moved in [roots[place], roots[place + 1], roots[-1] + 1, roots[0] - 1]:
                    moved_ones = between[:place] + [moved] + between[place + 1:]
                    other = from_roots(*told(moved_ones))
                    self.assertIs(do_go(poly, other), False)
                    self.assertEqual(pair_paper(poly, other)[0], "turn")
                    self.assertIs(check_pair(poly, other, pair_paper(poly, other)), "turn")

    def test_not_real_or_alike(self):
        for poly, other in [(times_polys(IMAGES, fracs(0, 1)), fracs(-1, 0, 1)), (from_roots(1, 1), fracs(-1, 1)),
                            (times_polys(IMAGES, IMAGES), fracs(0, 1, 0, 1)), (from_roots(1, 2, 2, 3), from_roots(1, 2, 3)),
                            (times_polys(IMAGES, from_roots(1, -1)), fracs(0, 1, 0, 1)), (IMAGES, fracs(5, 1))]:
            self.assertIs(do_go(poly, other), False)

    def test_ladders(self):
        for ladder in ladders(72, 4):
            polys = rung_polys(ladder)
            many = min(len(polys) - 1, 4)
            for k in range(1, many + 1):
                wanted = (frac(1), ladder[1][:k], ladder[2][:k - 1])
                self.assertIs(self.twice(do_go, polys[k], polys[k - 1]), True)
                self.same(self.twice(pair_paper, polys[k], polys[k - 1]), ("ladder", wanted))
                self.assertIs(check_pair(polys[k], polys[k - 1], ("ladder", wanted)), "ladder")
                for other in [(frac(2), wanted[1], wanted[2]), (frac(1), ladder[1][:k - 1], wanted[2]),
                              (frac(1), wanted[1], wanted[2] + fracs(1)), (frac(1), wanted[1], wanted[2] + fracs(0)),
                              (frac(1), fracs(BIG) + wanted[1][1:], wanted[2])]:
                    self.refused(BadPaper, "ladder", check_pair, polys[k], polys[k - 1], ("ladder", other))
                for turn in range(6):
                    self.refused(BadPaper, "turn", check_pair, polys[k], polys[k - 1], ("turn", turn))

    def test_turns_that_fail(self):
        turns = {}
        r = random.Random(73)
        for _ in range(300):
            many = r.randint(1, 4)
            poly = fracs(*[r.randint(-3, 3) for _ in range(many)] + [1])
            other = fracs(*[r.randint(-3, 3) for _ in range(many - 1)] + [1])
            turn = model_turn(poly, other)
            paper = pair_paper(poly, other)
            self.assertIs(do_go(poly, other), turn is None)
            if turn is None:
                self.assertEqual(paper[0], "ladder")
                self.same(rung_polys(paper[1])[-2:], (other, poly))
                continue
            turns[turn] = True
            self.same(paper, ("turn", turn))
            self.assertIs(check_pair(poly, other, ("turn", turn)), "turn")
            for wrong in [turn - 1, turn + 1, 0, -turn, BIG, True, None, str(turn), (turn,), [turn], (turn, 1)]:
                if wrong is not True or turn == 1:
                    self.refused(BadPaper, "turn", check_pair, poly, other, ("turn", wrong))
            self.refused(BadPaper, "ladder", check_pair, poly, other, ("ladder", (frac(1), poly[:-1], other[:-1])))
        self.assertEqual(sorted(turns), [1, 2, 3])

    def test_many_figures(self):
        roots = [(-BIG, 1), (1, BIG), (BIGGER, 1), (BIG, 1)]
        poly, other = from_roots(*roots), from_roots((-1, BIG), (2, BIG), (BIG - 1, 1))
        self.assertIs(do_go(poly, other), True)
        self.assertIs(check_pair(poly, other, pair_paper(poly, other)), "ladder")
        self.assertIs(do_go(poly, from_roots((-1, BIG), (1, BIG), (BIG - 1, 1))), False)
        self.assertIs(do_go(poly, from_roots((-1, BIG), (2, BIG), (BIG + 1, 1))), False)

    def test_forms(self):
        poly, other = fracs(-2, 0, 1), fracs(0, 1)
        good = pair_paper(poly, other)
        wrong = [list(good), good + (1,), good[:1], ("square", good[1]), ("Ladder", good[1]), ("", good[1]),
                 (b"ladder", good[1]), (None, good[1]), (("ladder",), good[1]), (["ladder"], good[1]), good[1], ("turn",),
                 ("turn", 1, 1), ("rest", 1), (True, 1), {"turn": 1}, "turn"]
        for paper in wrong + ANY:
            self.refused(BadPaper, "form", check_pair, poly, other, paper)
        for thing in wrong_ladders():
            self.refused(BadPaper, "ladder", check_pair, poly, other, ("ladder", thing))
        self.refused(BadPaper, "ladder", check_pair, fracs(-1, 1), ONE, ("ladder", (frac(1), ((True, 1),), ())))
        self.refused(BadPaper, "ladder", check_pair, fracs(-1, 1), ONE, ("ladder", ((1, True), fracs(1), ())))
        self.assertIs(check_pair(fracs(-1, 1), ONE, ("ladder", (frac(1), fracs(1), ()))), "ladder")
        self.refused(BadPaper, "ladder", check_pair, IMAGES, other, ("ladder", 1))
        self.refused(BadPaper, "turn", check_pair, poly, other, ("turn", good[1]))

    def test_degrees(self):
        for many in range(1, 5):
            poly = from_roots(*range(many))
            for other_many in range(0, 6):
                other = from_roots(*range(other_many))
                if other_many == many - 1:
                    self.assertIn(pair_paper(poly, other)[0], ("ladder", "turn"))
                else:
                    self.assertIs(self.refused(BadPoly, other, do_go, poly, other), other)
        self.assertIs(do_go(poly_told(worths(fracs(3, 1))), ONE), True)

    def test_wrong(self):
        tops, lows = (BadPoly, wrong_tops()), (BadPoly, wrong_lows())
        good = (fracs(-2, 0, 1), fracs(0, 1))
        for deed in (do_go, pair_paper):
            self.each_refused(deed, good, [tops, lows])
        for paper in [None, (), ("ladder", 1), ("turn", 1)]:
            for thing in wrong_tops():
                self.assertIs(self.refused(BadPoly, thing, check_pair, thing, good[1], paper), thing)
                self.assertIs(self.refused(BadPoly, thing, check_pair, thing, None, paper), thing)
            for thing in wrong_lows():
                self.assertIs(self.refused(BadPoly, thing, check_pair, good[0], thing, paper), thing)


if __name__ == "__main__":
    unittest.main()
