"""The 22 errors."""

import unittest

from ringclause import errors
from tests.samples import MOUNTAIN, Stubborn

ATTRIBUTES = {
    "InvalidName": ["name"], "InvalidLiteral": ["value"], "InvalidClause": ["value"], "InvalidText": ["line"],
    "UnknownMoment": ["name"], "InvalidChain": ["bounds"], "Inconsistent": ["ring"], "InvalidPivot": ["pivot"],
    "WrongStep": ["index"], "UnknownLiteral": ["literal"], "UnknownNumber": ["number"], "NotAllowed": ["deed"],
    "NoPaper": [], "InvalidLimit": ["value"], "InvalidWeights": [], "HasAnswer": ["answer"], "NoAnswer": ["paper"],
    "NothingPushed": [], "NothingToUndo": [], "NothingToRedo": [], "NotKept": ["clause"], "InvalidRow": ["index"],
}
VALUES = [None, True, 0, -3, "p", "", b"p", (), [1], {"a": 2}, (("yes", "p"),), MOUNTAIN, -MOUNTAIN, (MOUNTAIN,),
          object(), Stubborn(), [Stubborn()], ValueError("x"), len]


class ErrorsTest(unittest.TestCase):
    def test_exactly_these_classes_exist(self):
        found = [name for name in vars(errors) if name[0].isupper()]
        self.assertEqual(sorted(found), sorted([*ATTRIBUTES, "RingclauseError"]))
        self.assertEqual(len(ATTRIBUTES), 22)

    def test_base_class(self):
        self.assertEqual(errors.RingclauseError.__bases__, (ValueError,))

    def test_all_derive_directly_and_from_none_of_the_others(self):
        for name in ATTRIBUTES:
            with self.subTest(name=name):
                self.assertEqual(getattr(errors, name).__bases__, (errors.RingclauseError,))

    def test_created_by_position_with_any_value(self):
        for name, attributes in ATTRIBUTES.items():
            for value in VALUES:
                with self.subTest(name=name):
                    error = getattr(errors, name)(*[value for _ in attributes])
                    self.assertIsInstance(error, errors.RingclauseError)
                    self.assertIsInstance(error, ValueError)
                    self.assertEqual(list(vars(error)), attributes)
                    for attribute in attributes:
                        self.assertIs(getattr(error, attribute), value)

    def test_messages_are_written_whatever_the_value_is(self):
        for name, attributes in ATTRIBUTES.items():
            for value in VALUES:
                error = getattr(errors, name)(*[value for _ in attributes])
                self.assertIsInstance(str(error), str)
                self.assertIsInstance(repr(error), str)

    def test_arguments_are_counted(self):
        for name, attributes in ATTRIBUTES.items():
            with self.subTest(name=name):
                with self.assertRaises(TypeError):
                    getattr(errors, name)(*[1 for _ in attributes], 1)

    def test_caught_as_their_own_class_only(self):
        for name, attributes in ATTRIBUTES.items():
            error = getattr(errors, name)(*[0 for _ in attributes])
            for other in ATTRIBUTES:
                self.assertEqual(isinstance(error, getattr(errors, other)), name == other)


if __name__ == "__main__":
    unittest.main()
