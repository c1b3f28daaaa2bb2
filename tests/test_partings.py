import unittest
from itertools import combinations

from rungshare.errors import BadKind, BadNumber, BadParting
from rungshare.partings import all_partings, is_of_kind, parting_sign, turned_parting
from samples import Case, wrong_kinds, wrong_numbers, wrong_partings

KINDS = ("all", "free", "stretch")
COUNTS = {"all": (1, 1, 2, 5, 15, 52, 203, 877), "free": (1, 1, 2, 5, 14, 42, 132, 429),
          "stretch": (1, 1, 2, 4, 8, 16, 32, 64)}
CATALAN = (1, 1, 2, 5, 14, 42, 132)
FACTORIALS = (1, 1, 2, 6, 24, 120, 720)


def model_partings(many):
    """All partings, each number being told the block it is in."""
    found = [()]
    for _ in range(many):
        found = [told + (k,) for told in found for k in range(max(told, default=-1) + 2)]
    partings = []
    for told in found:
        blocks = [tuple([n for n in range(many) if told[n] == k]) for k in range(max(told, default=-1) + 1)]
        partings.append(tuple(blocks))
    return sorted(partings)


def model_crosses(parting):
    where = {number: k for k, block in enumerate(parting) for number in block}
    for p, q, r, s in combinations(range(len(where)), 4):
        if where[p] == where[r] and where[q] == where[s] and where[p] != where[q]:
            return True
    return False


def model_is(kind, parting):
    if kind == "free":
        return not model_crosses(parting)
    if kind == "stretch":
        return all([list(block) == list(range(block[0], block[-1] + 1)) for block in parting])
    return True


def model_together(parting, low, high):
    """Whether two numbers are in one block of the turned parting, by the words of the document."""
    for block in parting:
        within = [low < number <= high for number in block]
        if any(within) and not all(within):
            return False
    return True


def model_turned(parting):
    many = sum([len(block) for block in parting])
    blocks = []
    for number in range(many):
        block = tuple([n for n in range(many) if model_together(parting, min(n, number), max(n, number))])
        if block not in blocks:
            blocks.append(block)
    return tuple(blocks)


def model_sign(kind, parting):
    if not parting:
        return 1
    if kind == "free":
        whole = 1
        for block in model_turned(parting):
            whole *= CATALAN[len(block) - 1] * (-1) ** (len(block) - 1)
        return whole
    many = len(parting) - 1
    return (-1) ** many * (FACTORIALS[many] if kind == "all" else 1)


class Partings(Case):

    def test_known(self):
        self.same(all_partings("all", 0), ((),))
        self.same(all_partings("free", 1), (((0,),),))
        self.same(all_partings("all", 2), (((0,), (1,)), ((0, 1),)))
        self.same(all_partings("stretch", 3), (((0,), (1,), (2,)), ((0,), (1, 2)), ((0, 1), (2,)), ((0, 1, 2),)))
        self.assertIs(is_of_kind("free", ((0, 2), (1, 3))), False)
        self.assertIs(is_of_kind("free", ((0, 3), (1, 2))), True)
        self.assertIs(is_of_kind("stretch", ((0, 3), (1, 2))), False)
        self.assertIs(is_of_kind("stretch", ((0, 1), (2, 3))), True)
        self.assertIs(is_of_kind("all", ((0, 2), (1, 3))), True)
        self.same(turned_parting(()), ())
        self.same(turned_parting(((0,),)), ((0,),))
        self.same(turned_parting(((0,), (1,))), ((0, 1),))
        self.same(turned_parting(((0, 1),)), ((0,), (1,)))
        self.same(turned_parting(((0, 2), (1, 3))), ((0,), (1,), (2,), (3,)))
        self.same(turned_parting(((0, 3), (1, 2))), ((0, 2), (1,), (3,)))
        self.same(parting_sign("all", ((0,), (1,), (2,), (3,))), -6)
        self.same(parting_sign("free", ((0,), (1,), (2,), (3,))), -5)
        self.same(parting_sign("stretch", ((0,), (1,), (2,), (3,))), -1)
        self.same(parting_sign("free", ((0, 3), (1, 2))), -1)

    def test_all(self):
        for kind in KINDS:
            for many in range(8):
                wanted = tuple([parting for parting in model_partings(many) if model_is(kind, parting)])
                self.assertEqual(len(wanted), COUNTS[kind][many])
                self.same(self.twice(all_partings, kind, many), wanted)

    def test_kinds(self):
        for many in range(8):
            for parting in model_partings(many):
                for kind in KINDS:
                    self.assertIs(is_of_kind(kind, parting), model_is(kind, parting))
        self.twice(is_of_kind, "free", ((0, 2), (1, 3)))

    def test_turned(self):
        for many in range(8):
            seen = {}
            for parting in model_partings(many):
                got = turned_parting(parting)
                self.same(got, model_turned(parting))
                if model_is("free", parting):
                    # Those that do not cross turn to one another, and have one block more between both.
                    self.assertIs(is_of_kind("free", got), True)
                    seen[got] = True
                    if many > 0:
                        self.assertEqual(len(got) + len(parting), many + 1)
            self.assertEqual(len(seen), COUNTS["free"][many])
        self.twice(turned_parting, ((0, 3), (1, 2)))

    def test_signs(self):
        for kind in KINDS:
            self.same(parting_sign(kind, ()), 1)
            for many in range(8):
                for parting in model_partings(many):
                    if model_is(kind, parting):
                        self.same(parting_sign(kind, parting), model_sign(kind, parting))
                    else:
                        self.assertIs(self.refused(BadParting, parting, parting_sign, kind, parting), parting)
            self.twice(parting_sign, kind, ((0, 1), (2,)))

    def test_wrong(self):
        kinds, partings = (BadKind, wrong_kinds()), (BadParting, wrong_partings())
        good = ((0, 1), (2,))
        self.each_refused(all_partings, ("free", 3), [kinds, (BadNumber, wrong_numbers(0, 7))])
        self.each_refused(turned_parting, (good,), [partings])
        for kind in KINDS:
            self.each_refused(is_of_kind, (kind, good), [kinds, partings])
            self.each_refused(parting_sign, (kind, good), [kinds, partings])
        self.refused(BadKind, "no", parting_sign, "no", ((0, 2), (1, 3)))


if __name__ == "__main__":
    unittest.main()
