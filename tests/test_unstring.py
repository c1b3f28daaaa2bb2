import random
import unittest
from fractions import Fraction

from rungshare.errors import BadPaper, BadPoly
from rungshare.strings import string_polys
from rungshare.unstring import check_string, string_from, string_paper
from samples import ANY, BIG, BIGGER, Case, add, frac, fracs, mul, poly_told, some_string, worth, worths, wrong_polys
from samples import wrong_strings
from test_strings import PAIR, some_strings

GOOD = (fracs(2, -1), fracs(1, -3, 1))


def model_turn(poly, other):
    """The first turn that fails, None if none does, and the fractions of the turns, by the words of the document."""
    high, slant, found = worths(poly), worths(other), []
    for turn in range(1, 2 * len(poly) + 1):
        if turn % 2 == 1:
            part = -slant[-1] / high[-1]
            new = add(slant, mul([Fraction(0), part], high))
            is_right = len(new) == len(slant) - 1
            slant = new
        else:
            part = high[-1] / slant[-1]
            new = add(high, mul([-part], slant))
            is_right = len(new) == len(high) - 1
            high = new
        if part <= 0 or not is_right or (turn == 2 * len(poly) and slant != [Fraction(1)]):
            return turn, found
        found.append(part)
    return None, found


def wrong_highs():
    return wrong_polys() + [(), fracs(*range(1, 7)), fracs(*range(1, 13))]


def wrong_slants():
    """What is no other one of a polynomial of the degree 1."""
    return wrong_polys() + [(), fracs(1), fracs(1, 2), fracs(1, 2, 3, 4), fracs(*range(1, 13))]


class Unstring(Case):

    def test_known(self):
        self.same(string_paper(*GOOD), ("string", PAIR))
        self.same(string_from(*GOOD), PAIR)
        self.same(string_paper(fracs(2), fracs(1, -6)), ("string", (fracs(2), fracs(3))))
        # Not above nought at the first turn, at the second one, and what is left is not 1.
        self.same(string_paper(fracs(2), fracs(1, 6)), ("turn", 1))
        self.same(string_paper(fracs(-2), fracs(-1, 6)), ("turn", 2))
        self.same(string_paper(fracs(2), fracs(2, -6)), ("turn", 2))
        self.same(string_paper(fracs(-2), fracs(1, 6)), ("turn", 2))
        # The slant becomes ().
        self.same(string_paper(fracs(2), fracs(0, -6)), ("turn", 1))
        # Degrees that become less by more than one.
        self.same(string_paper(fracs(1, -1), fracs(1, -1, 1)), ("turn", 1))
        self.same(string_paper(fracs(1, -1), fracs(1, -2, 1)), ("turn", 2))
        self.same(string_from(fracs(1, -1), fracs(1, -2, 1)), None)

    def test_strings(self):
        for string in some_strings(311):
            pair = string_polys(string)
            self.same(self.twice(string_from, *pair), string)
            self.same(self.twice(string_paper, *pair), ("string", string))
            self.assertIs(self.twice(check_string, *pair, ("string", string)), "string")
            turn, found = model_turn(*pair)
            self.assertIs(turn, None)
            self.assertEqual(found[::2], worths(string[1])[::-1])
            self.assertEqual(found[1::2], worths(string[0])[::-1])
            for number in range(-1, 12):
                self.refused(BadPaper, "turn", check_string, *pair, ("turn", number))
            for other in some_strings(312, 1):
                self.refused(BadPaper, "string", check_string, *pair, ("string", other))

    def test_turns(self):
        r = random.Random(313)
        turns = {}

        def checked(poly, other):
            turn, _ = model_turn(poly, other)
            if turn is None:
                self.same(string_polys(string_from(poly, other)), (poly, other))
                return
            turns[(len(poly), turn)] = True
            self.same(self.twice(string_paper, poly, other), ("turn", turn))
            self.assertIs(string_from(poly, other), None)
            self.assertIs(check_string(poly, other, ("turn", turn)), "turn")
            for number in [turn - 1, turn + 1, -turn, 0, BIG, (turn,), str(turn), None, [turn]]:
                self.refused(BadPaper, "turn", check_string, poly, other, ("turn", number))
            self.refused(BadPaper, "string", check_string, poly, other, ("string", PAIR))

        for many in range(1, 6):
            for _ in range(25):
                pair = [worths(poly) for poly in string_polys(some_string(r, many))]
                place = r.randint(0, 1)
                number = r.randint(0, len(pair[place]) - 1)
                pair[place][number] += Fraction(r.randint(-9, 9), r.choice([1, 10, 1000]))
                if pair[0][-1] != 0 and pair[1][-1] != 0:
                    checked(*[poly_told(poly) for poly in pair])
            for turn in range(1, 2 * many + 1):
                # Strings some of whose fractions are below nought.
                parts = [r.randint(1, 5) for _ in range(2 * many)]
                parts[2 * many - turn] *= -1
                string = (fracs(*parts[::2]), fracs(*parts[1::2]))
                pair = string_polys_of_any(string)
                self.assertEqual(model_turn(*pair)[0], turn)
                checked(*pair)
        for many in range(1, 6):
            for turn in range(1, 2 * many + 1):
                self.assertIn((many, turn), turns)

    def test_degrees_that_fall_too_far(self):
        r = random.Random(314)
        turns = {}
        for many in range(2, 5):
            for later in range(0, 2 * (5 - many) + 1):
                # What is left at the turn is shorter than it would have to be; later ones are as they should.
                short = worths(fracs(*[r.randint(1, 5) for _ in range(r.randint(0, many - 2))]))
                other = worths(fracs(*[r.randint(1, 5) for _ in range(many)]))
                for is_gap in (True, False):
                    if is_gap:
                        high, slant = add(short, mul([Fraction(r.randint(1, 5))], other)), other
                        if later % 2 == 0:
                            continue
                    else:
                        high, slant = other, add(short, mul([Fraction(0), Fraction(-r.randint(1, 5))], other))
                        if later % 2 == 1:
                            continue
                    for k in range(later):
                        part = Fraction(r.randint(1, 5))
                        if is_gap == (k % 2 == 0):
                            slant = add(slant, mul([Fraction(0), -part], high))
                        else:
                            high = add(high, mul([part], slant))
                    pair = (poly_told(high), poly_told(slant))
                    if len(pair[0]) <= 5:
                        self.assertEqual(model_turn(*pair)[0], later + 1)
                        self.same(string_paper(*pair), ("turn", later + 1))
                        turns[later + 1] = True
        self.assertEqual(sorted(turns), [1, 2, 3, 4, 5, 6, 7])

    def test_last_turn(self):
        for string in some_strings(315):
            poly, other = string_polys(string)
            for factor in (2, Fraction(1, 2), Fraction(BIG, BIGGER)):
                scaled = [poly_told([part * factor for part in worths(one)]) for one in (poly, other)]
                self.same(string_paper(*scaled), ("turn", 2 * len(poly)))
            opposite = [poly_told([-part for part in worths(one)]) for one in (poly, other)]
            self.same(string_paper(*opposite), ("turn", 2 * len(poly)))
            self.same(string_paper(poly, opposite[1]), ("turn", 1))
            # A longer or shorter one of the two alone leaves 1: another string.
            scaled = poly_told([part * 3 for part in worths(poly)])
            gaps = poly_told([part * 3 for part in worths(string[0])])
            beads = poly_told([part / 3 for part in worths(string[1])])
            self.same(string_from(scaled, other), (gaps, beads))

    def test_forms(self):
        wrong = [["string", PAIR], ("string", PAIR, 1), ("string",), ("String", PAIR), ("ladder", PAIR), ("", PAIR),
                 (b"string", PAIR), (None, PAIR), (("string",), PAIR), PAIR, ("turn",), ("turn", 1, 1), (True, 1), "turn",
                 {"turn": 1}, ("rest", 1)]
        for paper in wrong + ANY:
            self.refused(BadPaper, "form", check_string, *GOOD, paper)
        for thing in wrong_strings():
            self.refused(BadPaper, "string", check_string, *GOOD, ("string", thing))
        self.refused(BadPaper, "string", check_string, *GOOD, ("string", (((True, 1), (1, 1)), PAIR[1])))
        self.refused(BadPaper, "string", check_string, *GOOD, ("string", list(PAIR)))
        self.refused(BadPaper, "string", check_string, *GOOD, ("string", 1))
        self.refused(BadPaper, "turn", check_string, *GOOD, ("turn", PAIR))
        bad = (fracs(2), fracs(1, 6))
        self.assertIs(check_string(*bad, ("turn", 1)), "turn")
        self.refused(BadPaper, "turn", check_string, *bad, ("turn", True))
        for thing in ANY:
            if thing != 1 or thing is True:
                self.refused(BadPaper, "turn", check_string, *bad, ("turn", thing))

    def test_many_figures(self):
        string = (fracs(BIG, (1, BIG), BIGGER, (BIGGER, BIG), 1), fracs((1, BIGGER), BIG, (2, BIG), BIGGER, BIG))
        self.same(string_from(*string_polys(string)), string)

    def test_wrong(self):
        highs, slants = (BadPoly, wrong_highs()), (BadPoly, wrong_slants())
        for deed in (string_from, string_paper):
            self.each_refused(deed, GOOD, [highs, slants])
        for paper in (None, (), ("string", PAIR), ("turn", 1)):
            for thing in highs[1]:
                self.assertIs(self.refused(BadPoly, thing, check_string, thing, GOOD[1], paper), thing)
                self.assertIs(self.refused(BadPoly, thing, check_string, thing, None, paper), thing)
            for thing in slants[1]:
                self.assertIs(self.refused(BadPoly, thing, check_string, GOOD[0], thing, paper), thing)
        for many in range(1, 6):
            poly = fracs(*range(1, many + 1))
            for other_many in range(8):
                other = fracs(*range(1, other_many + 1))
                if other_many == many + 1:
                    self.assertIn(string_paper(poly, other)[0], ("string", "turn"))
                else:
                    self.assertIs(self.refused(BadPoly, other, string_paper, poly, other), other)


def string_polys_of_any(string):
    """The polynomials that a string would have if its fractions might be nought or below it."""
    high, slant = [], [Fraction(1)]
    for gap, bead in zip(worths(string[0]), worths(string[1])):
        high = add(high, mul([gap], slant))
        slant = add(slant, mul([Fraction(0), -bead], high))
    return (poly_told(high), poly_told(slant))


if __name__ == "__main__":
    unittest.main()
