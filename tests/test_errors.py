import copy
import unittest

from rungshare import errors

GIVEN = [
    "BadBounds", "BadBundle", "BadChain", "BadCumulants", "BadFraction", "BadFractions", "BadHeard", "BadKind",
    "BadLadder", "BadLoad", "BadMarks", "BadNumber", "BadOpen", "BadOrder", "BadPart", "BadParting", "BadPlaces",
    "BadPoints", "BadPoly", "BadProfile", "BadRates", "BadRises", "BadRow", "BadRule", "BadRung", "BadShare",
    "BadSide", "BadString", "BadTable", "BadWay",
]
FIELDS = {name: ["given"] for name in GIVEN}
FIELDS.update({"BadPaper": ["part"], "NoShare": ["paper"], "BadTerm": ["path"], "BadText": ["line", "word"]})
OTHERS = {"TooMany": (OverflowError, "most"), "Missing": (KeyError, "given"), "NothingLeft": (RuntimeError, "many")}
THINGS = [None, True, 0, -1, 10 ** 60, "x", b"x", [], [1], {}, {1}, (), (1, 2), ValueError]


class Errors(unittest.TestCase):

    def test_rung_error(self):
        self.assertEqual(errors.RungError.__bases__, (ValueError,))
        self.assertEqual(errors.RungError().args, ())
        self.assertEqual(errors.RungError("a", 1).args, ("a", 1))
        self.assertEqual(str(errors.RungError("why")), "why")

    def test_all_are_here(self):
        classes = [name for name, thing in vars(errors).items() if isinstance(thing, type)]
        self.assertEqual(sorted(classes), sorted(list(FIELDS) + list(OTHERS) + ["RungError"]))

    def test_straight_under(self):
        for name in FIELDS:
            self.assertEqual(getattr(errors, name).__bases__, (errors.RungError,), name)
        for name, (base, _) in OTHERS.items():
            self.assertEqual(getattr(errors, name).__bases__, (base,), name)

    def test_none_under_another(self):
        classes = [getattr(errors, name) for name in list(FIELDS) + list(OTHERS)]
        for one in classes:
            for other in classes:
                self.assertEqual(issubclass(one, other), one is other)

    def test_fields(self):
        fields = dict(FIELDS)
        fields.update({name: [field] for name, (_, field) in OTHERS.items()})
        for name, names in fields.items():
            for thing in THINGS:
                passed = [thing, [thing]][:len(names)]
                held = copy.deepcopy(passed)
                error = getattr(errors, name)(*passed)
                self.assertEqual(list(vars(error)), names)
                for field, value in zip(names, passed):
                    self.assertIs(getattr(error, field), value)
                self.assertEqual(held, passed)
                with self.assertRaises(getattr(errors, name)):
                    raise error

    def test_made_with_just_these(self):
        for name in list(FIELDS) + list(OTHERS):
            many = len(FIELDS.get(name, ["x"]))
            for wrong in (0, many + 1):
                with self.assertRaises(TypeError):
                    getattr(errors, name)(*range(wrong))


if __name__ == "__main__":
    unittest.main()
