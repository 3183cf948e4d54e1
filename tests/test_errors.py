"""Tests of keptedits.errors: the classes, their bases, attributes and arguments."""

import inspect
import unittest

from keptedits import errors

KEPT = {
    "InvalidValue": ["value"], "InvalidSet": ["position"], "InvalidMap": ["position"],
    "InvalidOwn": ["part", "position"], "InvalidWrite": ["part"], "InvalidProgram": ["part", "key"],
    "InvalidWorld": ["part", "key"], "InvalidDocument": ["key"], "InvalidEdit": ["key"],
    "InvalidStep": ["position"], "InvalidRow": ["position"], "InvalidList": ["position"],
    "InvalidPresence": ["value"], "InvalidBeginnings": ["part", "position"], "NotSettable": ["value"],
    "NotRemovable": ["value"], "InvalidWish": ["position"], "InvalidOffer": ["position"],
    "InvalidChoice": ["value"], "InvalidCopies": ["position"], "InvalidNumber": ["value"],
    "InvalidText": ["line"], "InvalidCommand": ["value"], "InvalidName": ["value"], "NameTaken": ["value"],
    "NothingToUndo": [],
}
LOOKUPS = {"UnknownProgram": ["value"], "UnknownOwn": ["value"], "UnknownField": ["value"],
           "UnknownList": ["value"], "UnknownName": ["value"]}
OTHERS = {"Unlike": (RuntimeError, []), "TooMany": (ArithmeticError, ["what", "limit"])}


def wanted():
    """Return the dict from names of error classes to (base, attributes)."""
    found = {name: (errors.KeptError, told) for name, told in KEPT.items()}
    found.update({name: (LookupError, told) for name, told in LOOKUPS.items()})
    found.update(OTHERS)
    found["KeptError"] = (ValueError, None)
    return found


class ErrorsTest(unittest.TestCase):
    def test_there_are_just_these_classes(self):
        found = [name for name, value in vars(errors).items() if inspect.isclass(value)]
        self.assertEqual(sorted(found), sorted(wanted()))

    def test_each_class_has_its_one_direct_base(self):
        for name, (base, _) in wanted().items():
            self.assertEqual(getattr(errors, name).__bases__, (base,), name)

    def test_arguments_are_attributes_by_position_and_by_name(self):
        for name, (_, told) in wanted().items():
            if told is None:
                continue
            worth = [[], ("x", 3)][:len(told)]
            made = getattr(errors, name)
            self.assertEqual(vars(made(*worth)), dict(zip(told, worth)), name)
            self.assertEqual(vars(made(**dict(zip(told, worth)))), dict(zip(told, worth)), name)

    def test_no_more_and_no_fewer_arguments(self):
        for name, (_, told) in wanted().items():
            if told is None:
                continue
            made = getattr(errors, name)
            with self.assertRaises(TypeError):
                made(*([1] * (len(told) + 1)))
            if told:
                with self.assertRaises(TypeError):
                    made(*([1] * (len(told) - 1)))

    def test_the_value_is_the_one_that_was_given(self):
        value = [1]
        self.assertIs(errors.InvalidValue(value).value, value)
        self.assertIs(errors.UnknownList(value).value, value)


if __name__ == "__main__":
    unittest.main()
