import unittest

from cornersure import errors
from tests.samples import Plain, crop, odd_values

BASES = {"WrongValue": ValueError, "WrongName": LookupError, "NotPossible": ArithmeticError}
GIVEN = {
    "WrongValue": """
        InvalidText InvalidName InvalidColumn InvalidStretch InvalidMember InvalidMix InvalidWeights InvalidTarget
        InvalidBounds InvalidPrices InvalidSigns InvalidAnswer InvalidPoint InvalidPoints InvalidPlaces InvalidTie
        InvalidWay InvalidPairing InvalidTree InvalidCut InvalidNumber InvalidSeating InvalidWord InvalidWish
        InvalidCommand NotATable NotTimes NotAWeb NotCounts NotAThing""".split(),
    "WrongName": "UnknownName UnknownPlace".split(),
    "NotPossible": "TooFew TooMany TooGreat NotWhole NotJoined Narrow".split(),
}
INDEX = {
    "WrongValue": """
        InvalidColumns InvalidRows InvalidFacts InvalidTies InvalidCounts InvalidWishes InvalidLog""".split(),
    "WrongName": ["InUse"],
    "NotPossible": ["Broken"],
}
BARE = {"WrongValue": [], "WrongName": [], "NotPossible": "NotServed NoAnswer NoTimes NothingToUndo".split()}


def own_classes():
    return {name: value for name, value in vars(errors).items() if isinstance(value, type)}


class ErrorsTest(unittest.TestCase):
    def test_these_classes_are_all(self):
        listed = list(BASES)
        for kinds in (GIVEN, INDEX, BARE):
            for names in kinds.values():
                listed.extend(names)
        self.assertEqual(len(listed), 54)
        self.assertEqual(sorted(own_classes()), sorted(listed))

    def test_base_classes_are_under_those_of_python(self):
        for name, above in BASES.items():
            with self.subTest(name=name):
                self.assertEqual(getattr(errors, name).__bases__, (above,))
                self.assertEqual(vars(getattr(errors, name)()), {})

    def test_each_class_is_under_its_one_base_class_and_no_other(self):
        for kinds in (GIVEN, INDEX, BARE):
            for base, names in kinds.items():
                for name in names:
                    with self.subTest(name=name):
                        kind = getattr(errors, name)
                        own = [above for above in kind.__mro__ if above in own_classes().values()]
                        self.assertEqual(own, [kind, getattr(errors, base)])
                        self.assertTrue(issubclass(kind, BASES[base]))

    def assert_keeps(self, kinds, attribute):
        values = [*odd_values(), (1, 2), 5, "dry", crop(), Plain()]
        for names in kinds.values():
            for name in names:
                for value in values:
                    with self.subTest(name=name, kind=value.__class__.__name__):
                        kind = getattr(errors, name)
                        self.assertIs(getattr(kind(value), attribute), value)
                        self.assertIs(getattr(kind(**{attribute: value}), attribute), value)
                        self.assertEqual(list(vars(kind(value))), [attribute])

    def test_given_is_kept_as_passed(self):
        self.assert_keeps(GIVEN, "given")

    def test_index_is_kept_as_passed(self):
        self.assert_keeps(INDEX, "index")

    def test_an_attribute_must_be_passed(self):
        for kinds in (GIVEN, INDEX):
            for names in kinds.values():
                for name in names:
                    with self.subTest(name=name), self.assertRaises(TypeError):
                        getattr(errors, name)()

    def test_errors_without_an_attribute(self):
        for name in BARE["NotPossible"]:
            with self.subTest(name=name):
                self.assertEqual(vars(getattr(errors, name)()), {})

    def test_errors_are_raised_and_caught_by_their_bases(self):
        with self.assertRaises(errors.WrongValue) as caught:
            raise errors.InvalidRows(3)
        self.assertEqual(caught.exception.index, 3)
        with self.assertRaises(LookupError):
            raise errors.UnknownName(given="rye")
        with self.assertRaises(errors.NotPossible):
            raise errors.NothingToUndo()


if __name__ == "__main__":
    unittest.main()
