import random
import unittest
from fractions import Fraction
from itertools import permutations, product

from rungshare.apart import bundle_worth, bundles, order_sign, table_determinant, way_table
from rungshare.errors import BadBundle, BadLadder, BadOrder, BadPlaces, BadTable, Missing, TooMany
from rungshare.waysums import way_sum
from samples import ANY, BAD_FRACTIONS, BIG, BIGGER, Case, frac, fracs, ladders, some_ended, some_fraction, some_open
from samples import worth, worths, wrong_ladders, wrong_places, wrong_ways
from test_squares import model_determinant
from test_ways import model_heights, model_ways, model_worth


def model_bundles(starts, ends):
    """All bundles, by the words of the document: each order of ends, each way, and no place of two ways."""
    found = []
    for order in permutations(range(len(starts))):
        ways = []
        for start, number in zip(starts, order):
            many = ends[number][0] - start[0]
            ways.append([way for way in model_ways(start[1], many) if start[1] + sum(way) == ends[number][1]]
                        if many >= 0 else [])
        for some in product(*ways):
            places = [(start[0] + k, height) for start, way in zip(starts, some)
                      for k, height in enumerate(model_heights(start[1], way))]
            if len(set(places)) == len(places):
                found.append(tuple(zip(order, some)))
    return tuple(sorted(found))


def model_sign(order):
    pairs = [(i, j) for j in range(len(order)) for i in range(j) if order[i] > order[j]]
    return 1 if len(pairs) % 2 == 0 else -1


def some_places(r, many, low, high):
    found = {}
    while len(found) < many:
        found[(r.randint(low, high), r.randint(0, 4))] = True
    return tuple(found)


def some_pairs(seed, rounds):
    r = random.Random(seed)
    found = []
    for _ in range(rounds):
        many = r.randint(1, 3)
        if r.random() < 0.3:
            found.append((some_places(r, many, -2, 2), some_places(r, many, -2, 2)))
        else:
            found.append((some_places(r, many, -2, 0), some_places(r, many, 0, 2)))
    return found


def wrong_bundles():
    """What is no bundle from the starts (0, 0) and (0, 1)."""
    good = ((1, (1,)), (0, (-1,)))
    found = [list(good), good[:1], good + ((2, ()),), good[::-1], (good[0], good[0]), ((0, ()), (0, ())), ()]
    found += [((0, ()), (2, ())), ((-1, ()), (0, ())), ((1, ()), (2, ())), ((True, ()), (0, ())), ((0, ()), (True, ()))]
    found += [((False, ()), (1, ())), (("0", ()), (1, ())), ((0, ()), (None, ())), ((0, (), ()), (1, ())), ((0,), (1, ()))]
    found += [([0, ()], (1, ())), ((0, ()), [1, ()]), ((), ()), (0, 1), ((0, ()), 1), ((BIG, ()), (0, ())), good[0]]
    found += [(([0], ()), (1, ())), (({}, ()), (1, ()))]
    found += [((0, way), (1, ())) for way in wrong_ways(0)] + [((0, ()), (1, way)) for way in wrong_ways(1)]
    return found + ANY


def wrong_orders():
    found = [[0], [1, 0], (1,), (0, 0), (0, 2), (-1,), (0, -1), (1, 2), (0, 1, 3), (0, 1, 1), (0, 1, 2, 3), (True,), (False,)]
    found += [(0, True), (False, 1), ("0",), (None, 0), ((0,),), ([0],), ({},), "0", "01", b"\x00", {0}, {0: 0}, (BIG,)]
    return found + [(0, 1, None), (0, "1", 2)] + ANY


def wrong_squares():
    good = (fracs(1, 2), fracs(3, 4))
    found = [list(good), good[:1], good + good[:1], (list(good[0]), good[1]), (good[0], fracs(1)), (fracs(1), good[1])]
    found += [(), ((),), (fracs(1, 2),), (fracs(1, 2, 3), fracs(1, 2, 3)), tuple([fracs(*range(5))] * 5), fracs(1)]
    found += [tuple([fracs(*range(4))] * 5), tuple([fracs(*range(5))] * 4), ((), ()), {0: good}, "a", ("ab", "cd")]
    for bad in BAD_FRACTIONS + [None, True, 1, "1", [], ()]:
        found += [((bad,),), (good[0], (bad, frac(1))), ((frac(1), bad), good[1])]
    for bad in [None, True, 1, "ab", b"ab", [], {}, {(1, 1)}, (1, 1)]:
        found += [(bad,), (good[0], bad), (bad, good[1])]
    return found + ANY


class Apart(Case):

    def test_known(self):
        self.same(bundles(((0, 0),), ((0, 0),)), (((0, ()),),))
        self.same(bundles(((0, 0),), ((0, 1),)), ())
        self.same(bundles(((0, 0),), ((2, 0),)), (((0, (0, 0)),), ((0, (1, -1)),)))
        # They cross between places; where both go level they stand apart, too.
        crossed = ((0, 0), (0, 1)), ((1, 0), (1, 1))
        self.same(bundles(*crossed), (((0, (0,)), (1, (0,))), ((1, (1,)), (0, (-1,)))))
        # A place that is in both.
        self.same(bundles(((0, 0), (1, 1)), ((1, 1), (0, 0))), (((1, ()), (0, ())),))
        self.same(bundles(((0, 0), (1, 1)), ((1, 1), (2, 1))), (((1, (0, 1)), (0, ())),))
        self.same(bundles(((0, 0), (1, 1)), ((1, 1), (2, 0))), (((1, (0, 0)), (0, ())),))
        self.same(bundles(((0, 0), (1, 1)), ((2, 0), (1, 1))), (((0, (0, 0)), (1, ())),))
        # Ends to the left of starts.
        self.same(bundles(((1, 0),), ((0, 0),)), ())
        self.same(bundles(((1, 0), (-1, 0)), ((0, 0), (2, 0))), (((1, (0,)), (0, (0,))),))
        self.same(order_sign((0,)), 1)
        self.same(order_sign((1, 0)), -1)
        self.assertEqual([order_sign(order) for order in permutations(range(3))], [1, -1, -1, 1, 1, -1])
        self.same(table_determinant((fracs(1, 2), fracs(3, 4))), frac(-2))

    def test_meeting(self):
        starts, ends = ((0, 0), (0, 2)), ((2, 2), (2, 0))
        self.same(bundles(starts, ends), model_bundles(starts, ends))
        self.assertNotIn(((0, (1, 1)), (1, (-1, -1))), bundles(starts, ends))
        self.assertEqual(len(bundles(((0, 0), (0, 1)), ((2, 0), (2, 1)))), len(model_bundles(((0, 0), (0, 1)), ((2, 0), (2, 1)))))

    def test_all(self):
        sizes = {}
        for starts, ends in some_pairs(241, 150):
            wanted = model_bundles(starts, ends)
            sizes[min(len(wanted), 2)] = True
            if len(wanted) <= 2000:
                self.same(self.twice(bundles, starts, ends), wanted)
        self.assertEqual(sorted(sizes), [0, 1, 2])

    def test_too_many(self):
        starts, ends = ((-2, 0), (-2, 3), (-2, 4)), ((2, 1), (2, 2), (2, 3))
        found = bundles(starts, ends)
        self.assertEqual(len(found), 1998)
        self.same(found, model_bundles(starts, ends))
        for starts, ends in [(((-2, 0), (-2, 2), (-2, 3)), ((2, 1), (2, 2), (2, 4))),
                             (((-2, 4), (-2, 1), (-2, 2)), ((2, 0), (2, 4), (2, 2)))]:
            self.refused(TooMany, 2000, bundles, starts, ends)

    def test_determinants(self):
        kinds = {}
        for ladder in ladders(242, 1):
            for starts, ends in some_pairs(242, 25):
                sums = {}
                for start, end in product(starts, ends):
                    many = end[0] - start[0]
                    try:
                        sums[(start, end)] = way_sum(ladder, start[1], end[1], many) if many >= 0 else frac(0)
                    except Missing as error:
                        sums[(start, end)] = None
                        self.assertEqual(error.given, many)
                lacking = [(start, end) for start in starts for end in ends if sums[(start, end)] is None]
                if lacking:
                    start, end = lacking[0]
                    self.refused(Missing, end[0] - start[0], way_table, ladder, starts, ends)
                    kinds["lacking"] = True
                    continue
                table = self.twice(way_table, ladder, starts, ends)
                self.same(table, tuple([tuple([sums[(start, end)] for end in ends]) for start in starts]))
                found = model_bundles(starts, ends)
                whole = sum([worth(bundle_worth(ladder, starts, bundle)) for bundle in found], Fraction(0))
                self.same(table_determinant(table), frac(whole))
                kinds[(len(starts), whole == 0)] = True
        self.assertEqual(len(kinds), 7)

    def test_worths(self):
        r = random.Random(243)
        missing = 0
        for ladder in ladders(243, 1) + [some_ended(r, 5), some_open(r, 4, 4)]:
            for starts, ends in some_pairs(244, 25):
                for bundle in model_bundles(starts, ends)[:20]:
                    found = [model_worth(ladder, start[1], way) for start, (_, way) in zip(starts, bundle)]
                    if None in found:
                        missing += 1
                        self.assertIs(self.refused(Missing, bundle, bundle_worth, ladder, starts, bundle), bundle)
                        continue
                    whole = Fraction(model_sign([number for number, _ in bundle]))
                    for part in found:
                        whole *= part
                    self.same(self.twice(bundle_worth, ladder, starts, bundle), frac(whole))
        self.assertGreater(missing, 20)
        # No end is asked, and the ways may meet.
        ladder = (frac(1), fracs(2, 3, 5), fracs(7, 11))
        starts = ((0, 0), (2, 0), (-1, 1))
        self.same(bundle_worth(ladder, starts, ((1, (0,) * 8), (0, ()), (2, (0, -1)))), frac(-256 * 3 * 7))
        self.same(bundle_worth(ladder, starts, ((1, ()), (2, ()), (0, ()))), frac(1))
        self.refused(Missing, ((1, ()), (0, ()), (2, (1, 1, -1))), bundle_worth, ladder, starts,
                     ((1, ()), (0, ()), (2, (1, 1, -1))))

    def test_ended_and_open(self):
        # By an ended ladder of one level whatever comes to height 1 is nought; an open one lacks it.
        starts, ends = ((0, 0), (0, 1)), ((1, 0), (1, 1))
        self.same(way_table((frac(1), fracs(3), fracs(0)), starts, ends), (fracs(3, 0), fracs(0, 0)))
        self.refused(Missing, 1, way_table, (frac(1), fracs(3), ()), starts, ends)
        self.refused(Missing, 1, way_table, (frac(1), fracs(3), fracs(2)), starts, ends)
        self.same(way_table((frac(1), fracs(3, 4), fracs(2)), starts, ends), (fracs(3, 1), fracs(2, 4)))
        self.same(way_table((frac(1), fracs(3), fracs(0)), ((0, 1),), ((0, 1),)), (fracs(0),))
        self.same(way_table((frac(1), (), ()), ((0, 1),), ((0, 1),)), (fracs(1),))
        self.same(way_table((frac(1), fracs(3), ()), ((1, 0),), ((0, 0),)), (fracs(0),))
        self.same(way_table((frac(1), fracs(3), fracs(2)), ((1, 2), (2, 0)), ((0, 2), (-2, 0))), (fracs(0, 0),) * 2)
        # The first one that is not there, row by row.
        self.refused(Missing, 2, way_table, (frac(1), fracs(1), ()), ((0, 0), (-2, 4)), ((0, 0), (2, 0)))
        self.refused(Missing, 4, way_table, (frac(1), fracs(1), ()), ((-2, 4), (0, 0)), ((2, 4), (2, 0)))
        self.refused(Missing, 3, way_table, (frac(1), fracs(1), ()), ((-2, 1), (0, 0)), ((1, 0), (2, 0)))

    def test_determinant(self):
        r = random.Random(245)
        for many in range(1, 5):
            for _ in range(10):
                table = tuple([tuple([some_fraction(r) for _ in range(many)]) for _ in range(many)])
                wanted = frac(model_determinant([worths(row) for row in table]))
                self.same(self.twice(table_determinant, table), wanted)
                self.same(table_determinant(table[:-1] + table[:1]), wanted if many == 1 else frac(0))
        self.same(table_determinant((fracs(0, 1), fracs(1, 0))), frac(-1))
        self.same(table_determinant((fracs(0, 0), fracs(1, 0))), frac(0))
        big = (fracs(BIG, (1, BIG)), fracs(BIGGER, (-1, BIGGER)))
        self.same(table_determinant(big), frac(-Fraction(BIG, BIGGER) - Fraction(BIGGER, BIG)))

    def test_wrong(self):
        good = (frac(1), fracs(1, 2), fracs(1, 2))
        places, all_ladders = (BadPlaces, wrong_places()), (BadLadder, wrong_ladders())
        starts, ends = ((0, 0), (0, 1)), ((1, 0), (1, 1))
        others = (BadPlaces, wrong_places() + [((0, 0),), ((0, 0), (0, 1), (0, 2))])
        self.each_refused(bundles, (starts, ends), [places, others])
        self.each_refused(way_table, (good, starts, ends), [all_ladders, places, others])
        self.each_refused(bundle_worth, (good, starts, ((1, (1,)), (0, (-1,)))),
                          [all_ladders, places, (BadBundle, wrong_bundles())])
        self.each_refused(order_sign, ((1, 0),), [(BadOrder, wrong_orders())])
        self.each_refused(table_determinant, ((fracs(1, 2), fracs(3, 4)),), [(BadTable, wrong_squares())])


if __name__ == "__main__":
    unittest.main()
