import unittest
from itertools import product

from rungshare.errors import BadNumber, BadProfile, BadWay
from rungshare.profiles import all_profiles, profile_count, profile_of
from samples import ANY, BIG, Case, wrong_numbers, wrong_ways
from test_ways import model_heights, model_ways


def model_profile(way):
    heights = model_heights(0, way)
    told = []
    for wanted, lowest in ((0, 0), (-1, 1)):
        at = [height - lowest for height, step in zip(heights, way) if step == wanted]
        told.append(tuple([at.count(k) for k in range(max(at) + 1)]) if at else ())
    return tuple(told)


def model_counts(many):
    found = {}
    for way in model_ways(0, many):
        if sum(way) == 0:
            profile = model_profile(way)
            found[profile] = found.get(profile, 0) + 1
    return found


def wrong_profiles():
    found = [((), (0,)), ((0,), ()), ((1, 0), ()), ((), (1, 0)), ((0, 0), ()), ((9,), ()), ((), (9,)), ((-1,), ())]
    found += [((1,) * 6, ()), ((), (1,) * 6), ((0, 0, 0, 0, 0, 1), ()), ((1, -1, 1), ()), ((BIG,), ()), ((), (-BIG,))]
    found += [((True,), ()), ((), (True,)), ((False, 1), ()), ((None,), ()), (("1",), ()), ((), ("1",)), (([1],), ())]
    found += [(((1,),), ()), ((), ((1,),)), ([1], ()), ((), [1]), ([], []), ("", ""), ((), ""), (None, ()), ((), None)]
    found += [({}, ()), ((), {1}), (1, ()), ((), 1), ((), (), ()), ((),), ((1, 2), (1,), ()), [(), ()], {(): ()}]
    found += [(b"", ()), ((b"1",), ()), ((1, "2"), ()), ((0, None, 1), ())]
    return found + [thing for thing in ANY if thing not in (((), ()), ((1,), (1,)))]


class Profiles(Case):

    def test_known(self):
        self.same(profile_of(()), ((), ()))
        self.same(profile_of((0,)), ((1,), ()))
        self.same(profile_of((1, -1)), ((), (1,)))
        self.same(profile_of((1, 0, -1)), ((0, 1), (1,)))
        self.same(profile_of((0, 1, 1, 0, 0, -1, 0, -1)), ((1, 1, 2), (1, 1)))
        self.same(profile_of((1, 1, 1, 1, -1, -1, -1, -1)), ((), (1, 1, 1, 1)))
        self.same(profile_count(((), ())), 1)
        self.same(profile_count(((8,), ())), 1)
        self.same(profile_count(((1,), (1,))), 2)
        self.same(profile_count(((), (2, 1))), 2)
        self.same(profile_count(((1, 1), (1, 1))), 4)
        self.same(all_profiles(0), ((((), ()), 1),))
        self.same(all_profiles(2), ((((), (1,)), 1), (((2,), ()), 1)))
        self.same(all_profiles(3), ((((0, 1), (1,)), 1), (((1,), (1,)), 2), (((3,), ()), 1)))

    def test_ways(self):
        for many in range(9):
            for way in model_ways(0, many):
                if sum(way) == 0:
                    self.same(profile_of(way), model_profile(way))
                else:
                    self.assertIs(self.refused(BadWay, way, profile_of, way), way)
        self.twice(profile_of, (1, 0, -1))

    def test_all(self):
        for many in range(9):
            counts = model_counts(many)
            self.same(self.twice(all_profiles, many), tuple(sorted(counts.items())))
            for profile, count in counts.items():
                self.same(profile_count(profile), count)

    def test_counts(self):
        known = {}
        for many in range(9):
            known.update(model_counts(many))
        seen = {}
        for levels in product(range(3), repeat=5):
            for downs in product(range(3), repeat=4):
                profile = []
                for part in (levels, downs):
                    part = list(part)
                    while part and part[-1] == 0:
                        part.pop()
                    profile.append(tuple(part))
                profile = tuple(profile)
                if sum(levels) + 2 * sum(downs) > 11 or profile in seen:
                    continue
                seen[profile] = True
                self.same(profile_count(profile), known.get(profile, 0))
        # None has these, or their ways are too long.
        for profile in [((0, 1), ()), ((), (0, 1)), ((), (1, 0, 1)), ((1, 0, 1), (1,)), ((8, 8, 8, 8, 8), (8,) * 5),
                        ((8, 1), (1,)), ((7,), (1,)), ((), (5,)), ((), (1, 1, 1, 1, 1)), ((0, 0, 0, 0, 1), (1, 1, 1, 1)),
                        ((1,), (1, 1, 1, 1)), ((0, 0, 0, 0, 8), ())]:
            self.same(profile_count(profile), 0)
        self.twice(profile_count, ((2, 1), (2,)))

    def test_wrong(self):
        self.each_refused(profile_of, ((1, -1),), [(BadWay, wrong_ways() + [(1,), (1, 1, -1), (0, 1), (-1, 1), (1, -1, -1, 1), (0, -1, 1)])])
        self.each_refused(profile_count, (((1,), (1,)),), [(BadProfile, wrong_profiles())])
        self.each_refused(all_profiles, (3,), [(BadNumber, wrong_numbers(0, 8))])


if __name__ == "__main__":
    unittest.main()
