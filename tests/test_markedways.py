import unittest
from itertools import product

from rungshare.errors import BadMarks, BadParting, BadWay
from rungshare.markedways import marked_way, parting_of
from rungshare.partings import all_partings
from samples import ANY, BIG, Case, wrong_partings, wrong_ways
from test_partings import KINDS, model_is, model_partings
from test_ways import model_heights, model_ways


def model_marked(parting):
    """The marked way, by the words of the document, the blocks being opened and closed in turn."""
    where = {number: block for block in parting for number in block}
    way, marks, begun = [], [], []
    for number in range(len(where)):
        block = where[number]
        if len(block) == 1:
            step, mark = 0, -1
        elif number == block[0]:
            step, mark = 1, -1
        else:
            step = -1 if number == block[-1] else 0
            mark = len(begun) - 1 - begun.index(block)
        way.append(step)
        marks.append(mark)
        if step == 1:
            begun.append(block)
        if step == -1:
            begun.remove(block)
    return (tuple(way), tuple(marks))


def let_marks(way):
    """All marks that a way may have, as [50] tells."""
    lets = []
    for step, height in zip(way, model_heights(0, way)):
        if step == 1:
            lets.append([-1])
        else:
            lets.append(list(range(-1 if step == 0 else 0, height)))
    return list(product(*lets))


class MarkedWays(Case):

    def test_known(self):
        self.same(marked_way(()), ((), ()))
        self.same(marked_way(((0,),)), ((0,), (-1,)))
        self.same(marked_way(((0, 1),)), ((1, -1), (-1, 0)))
        self.same(marked_way(((0, 2), (1, 3))), ((1, 1, -1, -1), (-1, -1, 1, 0)))
        self.same(marked_way(((0, 3), (1, 2))), ((1, 1, -1, -1), (-1, -1, 0, 0)))
        self.same(marked_way(((0, 2, 4), (1, 5), (3,))), ((1, 1, 0, 0, -1, -1), (-1, -1, 1, -1, 1, 0)))
        self.same(parting_of((), ()), ())
        self.same(parting_of((1, 1, -1, -1), (-1, -1, 1, 0)), ((0, 2), (1, 3)))
        self.same(parting_of((1, 0, -1), (-1, -1, 0)), ((0, 2), (1,)))
        self.same(parting_of((1, 0, -1), (-1, 0, 0)), ((0, 1, 2),))

    def test_partings(self):
        for many in range(8):
            for parting in model_partings(many):
                way, marks = marked_way(parting)
                self.same((way, marks), model_marked(parting))
                self.same(parting_of(way, marks), parting)
                is_free = max(marks, default=-1) <= 0
                self.assertIs(is_free, model_is("free", parting))
                heights = model_heights(0, way)
                alone = [h for h, step, mark in zip(heights, way, marks) if step == 0 and mark == -1]
                self.assertIs(is_free and max(heights) <= 1 and 1 not in alone, model_is("stretch", parting))
        self.twice(marked_way, ((0, 2), (1, 3)))
        self.assertEqual(len(all_partings("all", 7)), 877)
        self.assertEqual(len(KINDS), 3)

    def test_ways(self):
        for many in range(8):
            seen = {}
            for way in model_ways(0, many):
                if sum(way) == 0:
                    for marks in let_marks(way):
                        parting = parting_of(way, marks)
                        seen[parting] = True
                        self.same(marked_way(parting), (way, marks))
            self.same(tuple(sorted(seen)), tuple(model_partings(many)))
        self.twice(parting_of, (1, 0, -1), (-1, 0, 0))

    def test_other_ways(self):
        for many in range(9):
            for way in product((-1, 0, 1), repeat=many):
                if many < 5 or many == 8 and way[:3] == (1, 0, 1):
                    heights = model_heights(0, way)
                    if min(heights) < 0 or heights[-1] != 0 or many > 7:
                        self.assertIs(self.refused(BadWay, way, parting_of, way, (-1,) * many), way)
                        self.refused(BadWay, way, parting_of, way, None)

    def test_other_marks(self):
        for many in range(5):
            for way in model_ways(0, many):
                if sum(way) != 0:
                    continue
                let = let_marks(way)
                for marks in product((-2, -1, 0, 1, 2), repeat=many):
                    if marks not in let:
                        self.assertIs(self.refused(BadMarks, marks, parting_of, way, marks), marks)
                for marks in let:
                    for wrong in (marks + (-1,), marks[:-1] if marks else (0,), list(marks), marks + (None,)):
                        self.refused(BadMarks, wrong, parting_of, way, wrong)

    def test_wrong(self):
        self.each_refused(marked_way, (((0, 1), (2,)),), [(BadParting, wrong_partings())])
        marks = [(True, 0), (-1, False), (-1, True), (-1, None), ("-1", 0), (-1, "0"), ((-1,), 0), (-1, [0]), (-1, BIG),
                 (-1,), (-1, 0, 0), (0, 0), (0, -1), (-1, 1), (-1, -1), [-1, 0], {-1: 0}, "-1", (-BIG, 0),
                 (-1, b"")] + ANY
        ways = wrong_ways() + [(1,), (1, 1, -1), (0,) * 8, (1, -1) * 4, (0, 1)]
        self.each_refused(parting_of, ((1, -1), (-1, 0)), [(BadWay, ways), (BadMarks, marks)])


if __name__ == "__main__":
    unittest.main()
