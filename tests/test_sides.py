import random
import unittest
from fractions import Fraction

from rungshare.chains import chain_of
from rungshare.errors import BadNumber, BadSide
from rungshare.ladders import row_of, rung_polys
from rungshare.nears import near_fractions
from rungshare.polys import product
from rungshare.rises import rises_ladder, rises_of
from rungshare.rows import moments
from rungshare.rowshares import is_of_share, ladder_of
from rungshare.sides import are_one, ladder_by, need_side, turned_to
from rungshare.signs import rational_roots
from rungshare.tables import table_of
from rungshare.walks import rates_of, walk_ladder
from samples import ANY, BIG, Case, at, frac, fracs, is_open, ladders, last_of, model_row, rows_of_any_kind, some_above
from samples import some_ended, some_open, some_rates, some_share, some_table, worth, worths, wrong_fractions
from samples import wrong_above, wrong_ladders, wrong_polys, wrong_rates, wrong_rises, wrong_rows, wrong_shares
from samples import wrong_tables

WORDS = ("row", "share", "ladder", "chain", "rises", "table", "walk")
HALF = ((frac(-1), frac(1, 2)), (frac(1), frac(1, 2)))
ENDED = (frac(1), fracs(0, 0), fracs(1, 0))


def some_rises(r, many, is_ended):
    return tuple([some_above(r) for _ in range(many - int(is_ended))]) + (fracs(0) if is_ended else ())


def some_sides(seed, rounds=2):
    """Sides with every word, with open and ended ladders."""
    r = random.Random(seed)
    found = [("row", fracs(1, 0)), ("row", fracs(3)), ("rises", frac(1), fracs(0)), ("rises", frac(2), ()),
             ("walk", (fracs(0, 1, 0),)),
             ("chain", fracs(1), fracs(0, 1)), ("chain", fracs(-1, 1), fracs(1, -2, 1)),
             ("table", frac(1), ((), fracs(0), ()))]
    for ladder in ladders(seed, rounds):
        found.append(("ladder", ladder))
        for top in range(9):
            if top <= last_of(ladder) and (is_open(ladder) or 2 * len(ladder[2]) <= top):
                found.append(("row", row_of(ladder, top)))
    for many in range(1, 6):
        for _ in range(rounds):
            share = some_share(r, many, r.choice([-4, 0]), 4)
            found.append(("share", share))
            found.append(("table", some_above(r), some_table(r, many)))
            found.append(("table", frac(1), some_table(r, many)))
            found.append(("walk", some_rates(r, many, bool(r.randint(0, 1)))))
            if many < 5:
                found.append(("chain",) + chain_of(share))
                found.append(("ladder", (frac(1),) + ladder_by(("share", share))[1:]))
            if many < 4:
                top, bottom = chain_of(share)
                factor = fracs(r.randint(1, 3), 2)
                found.append(("chain", product(top, factor), product(bottom, factor)))
    for many in range(1, 9):
        found += [("rises", some_above(r), some_rises(r, many, False)), ("rises", frac(1), some_rises(r, many, True))]
    return found


def model_ladder(side):
    """The ladder of a side, by what other files tell of it."""
    if side[0] == "row":
        return ladder_of(side[1])
    if side[0] == "ladder":
        return side[1]
    if side[0] == "rises":
        return rises_ladder(side[1], side[2])
    if side[0] == "table":
        lower, middle, upper = side[2]
        return (side[1], middle, tuple([frac(worth(a) * worth(b)) for a, b in zip(lower, upper)]) + fracs(0))
    if side[0] == "walk":
        return walk_ladder(side[1])
    return None


def model_turned(ladder, word):
    """The side of a ladder with that word, by the words of [55]."""
    is_ended, total = not is_open(ladder), ladder[0]
    row = None
    if not is_ended or len(ladder[2]) < 5:
        row = row_of(ladder, 8 if is_ended else last_of(ladder))
    if word == "ladder":
        return ("ladder", ladder)
    if word == "row":
        return None if row is None else ("row", row)
    if word == "rises":
        rises = None if row is None else rises_of(row)
        return None if rises is None or rises_ladder(total, rises) != ladder else ("rises", total, rises)
    if not is_ended:
        return None
    if word == "table":
        return ("table", total, table_of(ladder))
    if word == "chain":
        return None if len(ladder[1]) > 4 else ("chain",) + near_fractions(ladder)[-1]
    if word == "walk":
        rates = rates_of(ladder) if total == frac(1) else None
        return None if rates is None else ("walk", rates)
    numbers = rational_roots(rung_polys(ladder)[-1])
    if len(numbers) < len(ladder[1]):
        return None
    weights = []
    for number in numbers:
        # A weight is the most that its number can have.
        norm, whole = worth(total), Fraction(0)
        for poly, step in zip(rung_polys(ladder), ladder[2]):
            whole += at(worths(poly), worth(number)) ** 2 / norm
            norm *= worth(step)
        weights.append(1 / whole)
    return ("share", tuple([(number, frac(weight)) for number, weight in zip(numbers, weights)]))


def told_moments(ladder):
    """As many moments as the ladder tells; of ended ones so many that they tell each from all others."""
    return model_row(ladder, last_of(ladder) if is_open(ladder) else 10)


def wrong_sides():
    found = [("side",), ("side", HALF), ("side", HALF, HALF)] + [[one] for one in WORDS]
    found += [(word,) for word in WORDS] + [(word, None) for word in WORDS]
    found += [(word, None, None) for word in WORDS] + [("share", HALF, 1), ("row", fracs(1), fracs(1)),
                                                       ("ladder", ENDED, ENDED)]
    found += [("rises", fracs(1)), ("table", ((), fracs(1), ())), ("chain", fracs(1)),
              ("walk", frac(1), (fracs(0, 1, 0),))]
    found += [["share", HALF], ("Share", HALF), (b"share", HALF), (HALF, "share"), ("shares", HALF), ("", HALF),
              (None, HALF)]
    found += [(["share"], HALF), ({}, HALF), (("share",), HALF), (True, HALF), "share", ("share", list(HALF)),
              {"share": HALF}]
    found += [("row", row) for row in wrong_rows()] + [("share", share) for share in wrong_shares()]
    found += [("row", row) for row in rows_of_any_kind(451, 20) if not is_of_share(row)]
    found += [("share", tuple([(frac(k), frac(1)) for k in range(6)]))]
    found += [("ladder", ladder) for ladder in wrong_ladders()] + [("walk", rates) for rates in wrong_rates()]
    found += [("chain", fracs(1), poly) for poly in wrong_polys()]
    found += [("chain", poly, fracs(0, 1)) for poly in wrong_polys()]
    found += [("chain", (), fracs(1)), ("chain", fracs(1), fracs(1)), ("chain", fracs(1), ()),
              ("chain", fracs(-1), fracs(0, 1))]
    found += [("chain", fracs(1), fracs(1, 0, 1)), ("chain", fracs(0, 1), fracs(1, 0, 1)),
              ("chain", fracs(1, 1), fracs(0, 1))]
    found += [("chain", fracs(0, 0, 0, 0, 1), fracs(0, 0, 0, 0, 0, 1)), ("chain", fracs(1), fracs(-1, 0, 1)),
              ("chain", (), fracs(0, 1))]
    for bad in wrong_above():
        found += [("rises", bad, fracs(1)), ("table", bad, ((), fracs(1), ()))]
    found += [("rises", frac(1), rises) for rises in wrong_rises()]
    found += [("table", frac(1), table) for table in wrong_tables()]
    return found + ANY


class Sides(Case):

    def test_known(self):
        self.same(ladder_by(("share", HALF)), ENDED)
        self.same(ladder_by(("row", fracs(1, 0))), (frac(1), fracs(0), ()))
        self.same(turned_to(("share", HALF), "row"), ("row", fracs(1, 0, 1, 0, 1, 0, 1, 0, 1)))
        self.same(turned_to(("share", HALF), "chain"), ("chain", fracs(0, 1), fracs(-1, 0, 1)))
        self.same(turned_to(("share", HALF), "table"), ("table", frac(1), (fracs(1), fracs(0, 0), fracs(1))))
        self.same(turned_to(("share", HALF), "walk"), ("walk", (fracs(1, 0, 0), fracs(0, 0, 1))))
        self.same(turned_to(("share", HALF), "rises"), None)
        self.same(turned_to(("row", fracs(1, 0)), "rises"), None)
        self.same(turned_to(("rises", frac(1), fracs(0)), "row"), ("row", fracs(1, 0, 0, 0, 0, 0, 0, 0, 0)))
        self.same(turned_to(("rises", frac(1), fracs(0)), "rises"), ("rises", frac(1), fracs(0)))
        self.same(turned_to(("row", fracs(2, 2)), "rises"), ("rises", frac(2), fracs(1)))
        self.same(turned_to(("ladder", (frac(1), fracs(0, 0), fracs(2, 0))), "share"), None)
        self.assertIs(are_one(("share", HALF), ("row", fracs(1, 0, 1))), True)
        self.assertIs(are_one(("share", HALF), ("row", fracs(1, 0, 2))), False)
        self.assertIs(are_one(("share", HALF), ("row", fracs(2))), False)

    def test_ladders(self):
        for side in some_sides(452):
            self.assertIs(need_side(side), side)
            ladder = self.twice(ladder_by, side)
            wanted = model_ladder(side)
            if wanted is not None:
                self.same(ladder, wanted)
            elif side[0] == "share":
                self.assertIs(is_open(ladder), False)
                self.assertEqual(len(ladder[1]), len(side[1]))
                sums = [sum([worth(w) * worth(n) ** k for n, w in side[1]]) for k in range(11)]
                self.assertEqual(worths(model_row(ladder, 10)), sums)
            else:
                # What divides top by bottom is the last near fraction, common parts or not.
                top, bottom = near_fractions(ladder)[-1]
                self.same(product(side[1], bottom), product(side[2], top))

    def test_turned(self):
        seen = {}
        for side in some_sides(453):
            ladder = ladder_by(side)
            for word in WORDS:
                got = self.twice(turned_to, side, word)
                self.same(got, model_turned(ladder, word))
                seen[word, got is None, is_open(ladder)] = True
                if got is not None:
                    self.same(got[0], word)
                    self.same(ladder_by(got), ladder)
                    self.same(turned_to(got, word), got)
                    back = turned_to(got, side[0])
                    if side[0] not in ("row", "chain", "table"):
                        self.same(back, side)
                    if side[0] == "share":
                        self.same(turned_to(got, "share"), side)
        for word in WORDS:
            self.assertEqual((word, True, False) in seen, word not in ("ladder", "table"))
            self.assertEqual((word, False, True) in seen, word in ("row", "ladder", "rises"))
            self.assertTrue((word, False, False) in seen)

    def test_own_words(self):
        for many in range(1, 5):
            r = random.Random(454 + many)
            share = some_share(r, many)
            for top in range(2 * many, 9):
                self.same(turned_to(("row", moments(share, top)), "row"), ("row", moments(share, 8)))
            row = moments(share, 2 * many - 1)
            self.same(turned_to(("row", row), "row"), ("row", row))
            top, bottom = chain_of(share)
            for factor in (fracs(5), fracs(1, 2), fracs(1, 0, 1)):
                if len(factor) + many < 6:
                    self.same(turned_to(("chain", product(top, factor), product(bottom, factor)), "chain"),
                              ("chain", top, bottom))
            table = some_table(r, many)
            total, told = frac(3), turned_to(("table", frac(3), table), "table")
            lower = tuple([frac(worth(a) * worth(b)) for a, b in zip(table[0], table[2])])
            self.same(told, ("table", total, (lower, table[1], fracs(*[1] * (many - 1)))))

    def test_four_and_five_steps(self):
        r = random.Random(455)
        five = [("ladder", some_ended(r, 5)), ("share", some_share(r, 5)), ("table", frac(1), some_table(r, 5)),
                ("walk", some_rates(r, 5))]
        for side in five:
            for word in ("row", "chain", "rises"):
                self.assertIs(turned_to(side, word), None)
            self.same(turned_to(side, "table")[0], "table")
        for side in [("ladder", some_ended(r, 4)), ("share", some_share(r, 4))]:
            self.same(len(turned_to(side, "row")[1]), 9)
            self.same(turned_to(side, "chain")[0], "chain")
        share = some_share(r, 4, 1, 9)
        got = turned_to(("share", share), "rises")
        self.assertEqual(len(got[2]), 8)
        self.same(turned_to(got, "share"), ("share", share))

    def test_totals(self):
        rates = some_rates(random.Random(456), 3)
        ladder = walk_ladder(rates)
        self.same(turned_to(("ladder", ladder), "walk"), ("walk", rates))
        self.same(turned_to(("ladder", (frac(2),) + ladder[1:]), "walk"), None)
        self.same(turned_to(("ladder", (frac(1), fracs(-1), fracs(0))), "walk"), None)
        self.same(turned_to(("ladder", (frac(1), fracs(2), fracs(0))), "walk"), None)

    def test_one(self):
        sides = some_sides(457, 1)
        sides += [("ladder", (ladder[0], ladder[1][:k], ladder[2][:k])) for _, ladder in
                  [side for side in sides if side[0] == "ladder"] for k in range(1, 5)
                  if k <= len(ladder[1]) and (0, 1) not in ladder[2][:k]]
        seen = {}
        for one in sides[::2]:
            for other in sides:
                ladders_of = [ladder_by(side) for side in (one, other)]
                rows = [told_moments(ladder) for ladder in ladders_of]
                wanted = all([a == b for a, b in zip(*rows)])
                kind = tuple([is_open(ladder) for ladder in ladders_of])
                seen[kind, wanted] = True
                self.assertIs(are_one(one, other), wanted)
                self.assertIs(are_one(other, one), wanted)
                if kind == (False, False):
                    self.assertIs(wanted, ladders_of[0] == ladders_of[1])
            self.assertIs(self.twice(are_one, one, one), True)
        self.assertEqual(len(seen), 8)

    def test_one_so_far(self):
        share = some_share(random.Random(458), 3)
        row = moments(share, 8)
        for top in range(9):
            self.assertIs(are_one(("share", share), ("row", row[:top + 1])), True)
            self.assertIs(are_one(("row", row[:4]), ("row", row[:top + 1])), True)
        other = ("row", row[:5] + (frac(worth(row[5]) + 1),))
        self.assertIs(are_one(("share", share), other), False)
        self.assertIs(are_one(other, ("row", row[:5])), True)
        self.assertIs(are_one(("row", row[:5]), other), True)

    def test_fact_of_two_shares(self):
        # One spread wider about the same middle: no even moment is less, the first step neither.
        one, other = ("share", HALF), ("share", ((frac(-2), frac(1, 4)), (frac(0), frac(1, 2)), (frac(2), frac(1, 4))))
        rows = [turned_to(side, "row")[1] for side in (one, other)]
        self.assertTrue(all([worth(a) <= worth(b) for a, b in zip(rows[0][::2], rows[1][::2])]))
        self.assertLessEqual(worth(ladder_by(one)[2][0]), worth(ladder_by(other)[2][0]))

    def test_many_figures(self):
        share = tuple([(frac(k * BIG, 7 + k), frac(BIG - k)) for k in range(-2, 3)])
        self.same(turned_to(turned_to(("share", share), "table"), "share"), ("share", share))
        open_one = ("ladder", some_open(random.Random(459), 4, 4))
        self.same(turned_to(turned_to(open_one, "row"), "ladder"), open_one)

    def test_words(self):
        words = ["Row", "rows", "", "row ", "side", b"row", ["row"], ("row",), {"row"}, {"row": 1}] + wrong_fractions()
        for word in [one for one in words + ANY if one not in WORDS]:
            self.assertIs(self.refused(BadNumber, word, turned_to, ("share", HALF), word), word)

    def test_wrong(self):
        sides = (BadSide, wrong_sides())
        words = [one for one in ANY if one not in WORDS]
        self.each_refused(need_side, (("share", HALF),), [sides])
        self.each_refused(ladder_by, (("share", HALF),), [sides])
        self.each_refused(turned_to, (("share", HALF), "row"), [sides, (BadNumber, words)])
        some = (BadSide, wrong_sides()[::9])
        self.each_refused(are_one, (("share", HALF), ("row", fracs(1))), [sides, some])


if __name__ == "__main__":
    unittest.main()
