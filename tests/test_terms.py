import random
import unittest
from fractions import Fraction

from rungshare.errors import BadTerm
from rungshare.kindsums import kind_sum, share_sum
from rungshare.moves import moved_row, scaled_row, times_row
from rungshare.rows import mixed, moments, need_share
from rungshare.terms import kids_of, need_term, share_of
from rungshare.thins import thinned_row
from samples import ANY, BIG, BIGGER, Case, frac, same, some_above, some_fraction, some_share, worth
from samples import wrong_above, wrong_fractions, wrong_shares

ONE = ("pairs", ((frac(1), frac(2)),))
HALF = ("pairs", ((frac(-1), frac(1, 2)), (frac(1), frac(1, 2))))
KIDS = {"pairs": 0, "moved": 1, "scaled": 1, "heavier": 1, "mixed": 2, "added": 2, "squared": 1}


def line(many, step=1, first=0):
    """The term of a share with so many numbers in a row."""
    return ("pairs", tuple([(frac(first + k * step), frac(1, k + 1)) for k in range(many)]))


def model_share(term):
    """The share of a term, pair by pair."""
    word, weights = term[0], {}
    kids = [model_share(term[k + 1]) for k in range(KIDS[word])]
    if word == "pairs":
        pairs = [(worth(n), worth(w)) for n, w in term[1]]
    elif word == "mixed":
        pairs = kids[0] + kids[1]
    elif word == "added":
        pairs = [(a + b, v * w) for a, v in kids[0] for b, w in kids[1]]
    elif word == "squared":
        pairs = [(n * n, w) for n, w in kids[0]]
    else:
        part = worth(term[2])
        change = {"moved": lambda n, w: (n + part, w), "scaled": lambda n, w: (n * part, w),
                  "heavier": lambda n, w: (n, w * part)}
        pairs = [change[word](n, w) for n, w in kids[0]]
    for number, weight in pairs:
        weights[number] = weights.get(number, Fraction(0)) + weight
    return sorted(weights.items())


def told_share(pairs):
    return tuple([(frac(n), frac(w)) for n, w in pairs])


def some_term(r, deep):
    """Terms of all words, at most so deep; some of them have too many numbers."""
    if deep == 1 or r.randint(0, 4) == 0:
        return ("pairs", some_share(r, r.randint(1, 3), -1, 1))
    word = r.choice(["moved", "scaled", "heavier", "mixed", "added", "squared"])
    kids = tuple([some_term(r, deep - 1) for _ in range(KIDS[word])])
    if word == "moved":
        return (word,) + kids + (some_fraction(r),)
    if word == "scaled":
        return (word,) + kids + (frac(r.choice([-2, 1]), r.randint(1, 3)),)
    if word == "heavier":
        return (word,) + kids + (some_above(r),)
    return (word,) + kids


def words_in(term):
    return 1 + sum([words_in(kid) for kid in term[1:1 + KIDS[term[0]]]])


def is_small(term):
    """Whether no term within has more than 6 numbers."""
    return len(model_share(term)) <= 6 and all([is_small(kid) for kid in term[1:1 + KIDS[term[0]]]])


def nested(word, times, term, *behind):
    for _ in range(times):
        term = (word, term) + behind
    return term


def comb_of(many):
    """A term of so many words, an odd number, deep on the right alone by twos."""
    some = [HALF] * ((many + 1) // 2)
    while len(some) > 1:
        some = [("mixed", some[k], some[k + 1]) if k + 1 < len(some) else some[k] for k in range(0, len(some), 2)]
    return some[0]


class Terms(Case):

    def test_known(self):
        self.same(share_of(HALF), HALF[1])
        self.same(share_of(("moved", HALF, frac(2))), ((frac(1), frac(1, 2)), (frac(3), frac(1, 2))))
        self.same(share_of(("scaled", HALF, frac(-2))), ((frac(-2), frac(1, 2)), (frac(2), frac(1, 2))))
        self.same(share_of(("scaled", line(2), frac(-2))), ((frac(-2), frac(1, 2)), (frac(0), frac(1))))
        self.same(share_of(("heavier", HALF, frac(2))), ((frac(-1), frac(1)), (frac(1), frac(1))))
        self.same(share_of(("mixed", HALF, ONE)), ((frac(-1), frac(1, 2)), (frac(1), frac(5, 2))))
        self.same(share_of(("added", HALF, HALF)), ((frac(-2), frac(1, 4)), (frac(0), frac(1, 2)),
                                                    (frac(2), frac(1, 4))))
        self.same(share_of(("squared", HALF)), ((frac(1), frac(1)),))
        self.same(kids_of(HALF), ())
        self.same(kids_of(("mixed", HALF, ONE)), (HALF, ONE))
        self.same(kids_of(("moved", ONE, frac(2))), (ONE,))
        self.assertIs(need_term(HALF), HALF)

    def test_terms(self):
        r = random.Random(461)
        seen, refused = {}, 0
        for _ in range(400):
            term = some_term(r, r.randint(1, 5))
            if words_in(term) > 20:
                self.refused(BadTerm, (), need_term, term)
            elif is_small(term):
                self.assertIs(need_term(term), term)
                self.same(need_share(self.twice(share_of, term)), told_share(model_share(term)))
                self.same(self.twice(kids_of, term), term[1:1 + KIDS[term[0]]])
                seen[term[0]] = seen.get(term[0], 0) + 1
            else:
                self.same(self.refused(BadTerm, self.path_of(term), need_term, term), self.path_of(term))
                refused += 1
        self.assertEqual(len(seen), 7)
        self.assertGreater(min(seen.values()), 10)
        self.assertGreater(refused, 20)

    def path_of(self, term):
        """The path to the first of all, what stands within ahead of the whole, with too many numbers; or None."""
        for k in range(1, 1 + KIDS[term[0]]):
            path = self.path_of(term[k])
            if path is not None:
                return (k,) + path
        return () if len(model_share(term)) > 6 else None

    def test_moments(self):
        r = random.Random(462)
        for _ in range(10):
            one, other = [some_share(r, r.randint(1, 2)) for _ in range(2)]
            first, second = ("pairs", one), ("pairs", other)
            part, above = frac(r.choice([-3, 2]), 5), some_above(r)
            row, second_row = moments(one, 8), moments(other, 8)
            self.same(moments(share_of(("moved", first, part)), 8), moved_row(row, part))
            self.same(moments(share_of(("scaled", first, part)), 8), scaled_row(row, part))
            self.same(moments(share_of(("heavier", first, above)), 8), times_row(row, above))
            self.same(moments(share_of(("mixed", first, second)), 8), mixed(row, second_row, frac(1), frac(1)))
            self.same(moments(share_of(("added", first, second)), 8), kind_sum(row, second_row, "all"))
            self.same(moments(share_of(("squared", first)), 4), thinned_row(row))
            self.same(share_of(("added", first, second)), share_sum(one, other))

    def test_words(self):
        # 19 words and 20, then 21: the last ones stand where the walk comes to them last.
        self.same(words_in(comb_of(19)), 19)
        self.same(need_term(comb_of(19)), comb_of(19))
        twenty = ("squared", comb_of(19))
        self.assertEqual(words_in(twenty), 20)
        self.same(need_term(twenty), twenty)
        for many in (21, 23, 39):
            self.same(self.refused(BadTerm, (), need_term, comb_of(many)), ())
        for whole in (("squared", twenty), ("mixed", comb_of(19), HALF), ("mixed", ONE, comb_of(19))):
            self.assertEqual(words_in(whole), 21)
            self.refused(BadTerm, (), share_of, whole)
            self.refused(BadTerm, (), kids_of, whole)
        # The 21st word is refused whatever it is, one ahead of it as what it is.
        broken = ("mixed", comb_of(19), None)
        self.refused(BadTerm, (), need_term, broken)
        self.refused(BadTerm, (1,), need_term, ("mixed", None, comb_of(21)))
        self.refused(BadTerm, (), need_term, ("mixed", comb_of(21), None))
        self.refused(BadTerm, (2,), need_term, ("mixed", comb_of(17), None))

    def test_deep(self):
        for word, behind in [("squared", ()), ("moved", (frac(1),)), ("scaled", (frac(-1),)), ("heavier", (frac(2),))]:
            eight = nested(word, 7, ONE, *behind)
            self.assertIs(need_term(eight), eight)
            self.same(share_of(eight), told_share(model_share(eight)))
            nine = nested(word, 8, ONE, *behind)
            self.same(self.refused(BadTerm, (), need_term, nine), ())
            self.refused(BadTerm, (), need_term, nested(word, 15, ONE, *behind))
            # What stands within eight others is refused whatever it is, one within seven as what it is.
            self.refused(BadTerm, (), need_term, nested(word, 8, None, *behind))
            self.refused(BadTerm, (1,) * 7, need_term, nested(word, 7, None, *behind))
        right = ONE
        for _ in range(7):
            right = ("mixed", ONE, right)
        self.assertIs(need_term(right), right)
        self.refused(BadTerm, (), need_term, ("mixed", ONE, right))
        self.refused(BadTerm, (1,), need_term, ("mixed", None, right))

    def test_numbers(self):
        for many in (5, 6):
            self.same(need_term(line(many)), line(many))
        six = ("added", line(2), line(5))
        seven = ("added", line(2), line(6))
        self.same(len(share_of(six)), 6)
        self.same(self.refused(BadTerm, (), need_term, seven), ())
        self.refused(BadTerm, (1,), need_term, ("moved", seven, frac(1)))
        self.refused(BadTerm, (2, 1, 1), need_term, ("mixed", HALF, ("squared", ("scaled", seven, frac(2)))))
        # The whole would be small enough, had it come to it.
        wide = ("mixed", line(4, 1, -4), line(4, 1, 1))
        self.refused(BadTerm, (1,), share_of, ("squared", wide))
        self.same(len(share_of(("squared", ("mixed", line(3, 1, -3), line(3, 1, 1))))), 3)
        # The first one from left to right, what stands in it ahead of the whole.
        self.refused(BadTerm, (1, 1), need_term, ("mixed", ("squared", seven), seven))
        self.refused(BadTerm, (1,), need_term, ("mixed", seven, ("squared", seven)))
        self.refused(BadTerm, (2, 2), need_term, ("added", line(6), ("mixed", six, seven)))
        self.refused(BadTerm, (2,), need_term, ("added", line(6), seven))

    def test_both_walks(self):
        seven = ("added", line(2), line(6))
        # Forms ahead of numbers, wherever they stand.
        self.refused(BadTerm, (2,), need_term, ("mixed", seven, None))
        self.refused(BadTerm, (), need_term, ("moved", seven, None))
        self.refused(BadTerm, (2, 2), need_term, ("mixed", seven, ("mixed", seven, ())))
        self.refused(BadTerm, (), need_term, ("mixed", seven, nested("squared", 8, ONE)))
        # The whole ahead of what stands in it.
        self.refused(BadTerm, (), need_term, ("moved", None, None))
        self.refused(BadTerm, (), need_term, ("scaled", None, frac(0)))
        self.refused(BadTerm, (1,), need_term, ("scaled", None, frac(1)))
        self.refused(BadTerm, (1,), need_term, ("mixed", ("moved", None, 1), None))
        self.refused(BadTerm, (1, 1), need_term, ("mixed", ("moved", None, frac(1)), None))
        self.refused(BadTerm, (1, 2), need_term, ("mixed", ("added", ONE, 5), None))

    def test_forms(self):
        wrong = [(), ("pairs",), ("pairs", HALF[1], 1), ("moved", ONE), ("moved", ONE, frac(1), frac(1)),
                 ("moved", frac(1), ONE),
                 ("mixed", ONE), ("mixed", ONE, ONE, ONE), ("squared",), ("squared", ONE, frac(1)), ("added", ONE),
                 ("Pairs", HALF[1]),
                 (b"pairs", HALF[1]), ["pairs", HALF[1]], ("", HALF[1]), (None, HALF[1]), (["pairs"], HALF[1]), HALF[1],
                 "pairs",
                 {"pairs": HALF[1]}, ({}, HALF[1]), ("shares", HALF[1]), (("pairs",), HALF[1]), (True, ONE),
                 ("heavier", ONE, 2)]
        wrong += [("pairs", share) for share in wrong_shares()]
        wrong += [("moved", ONE, bad) for bad in wrong_fractions()] + [("heavier", ONE, bad) for bad in wrong_above()]
        wrong += [("scaled", ONE, bad) for bad in wrong_fractions() + [(0, 1)]] + ANY
        for thing in wrong:
            for deed in (need_term, share_of, kids_of):
                self.refused(BadTerm, (), deed, thing)
            self.refused(BadTerm, (1,), need_term, ("squared", thing))
            self.refused(BadTerm, (2,), need_term, ("mixed", ONE, thing))
            self.refused(BadTerm, (1, 2), share_of, ("moved", ("added", ONE, thing), frac(1)))

    def test_many_figures(self):
        big = ("pairs", ((frac(-BIG), frac(1, BIG)), (frac(BIGGER, BIG), frac(BIG))))
        term = ("added", ("squared", ("moved", big, frac(1, BIG))), ("heavier", ("scaled", big, frac(-BIGGER)),
                                                                     frac(BIG)))
        self.same(share_of(term), told_share(model_share(term)))
        self.assertTrue(same(share_of(nested("squared", 7, big)), told_share(model_share(nested("squared", 7, big)))))


if __name__ == "__main__":
    unittest.main()
