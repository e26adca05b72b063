"""Section 10: the errors, their Python errors and their fields."""

import inspect
import unittest

from sieveways import errors
from tests.values import any_values

FIELDS = {
    ValueError: {
        "InvalidDatum": ["value"], "InvalidFilter": ["value"], "InvalidLimit": ["value"], "InvalidCount": ["value"],
        "InvalidCode": ["index"], "InvalidText": ["index"], "InvalidName": ["value"], "InvalidEntry": ["name"],
        "InvalidDeed": ["index"], "InvalidGuard": ["index"], "NotChooser": ["spot"], "NotFitting": ["value"],
        "Endless": ["name"], "TooGreat": ["name"], "Standing": ["name"], "NoQuestion": ["question"],
    },
    LookupError: {
        "NoPart": ["place"], "NoSpot": ["spot"], "NoWay": ["index"], "NotThere": ["index"], "NoName": ["value"],
        "OutOfRange": ["value"], "Unknown": ["name", "word"], "UnknownShape": ["name"],
    },
    RuntimeError: {
        "Fails": ["reason"], "Failed": ["index", "reason"], "NoOutcome": ["index"], "TooLong": ["index"],
        "Broken": ["index"],
    },
}


def every_error():
    """Each error class with its Python error and the names of its fields."""
    for base, rows in FIELDS.items():
        for name, fields in rows.items():
            yield getattr(errors, name), base, fields


class ErrorsTest(unittest.TestCase):
    def test_each_error_of_the_document_is_there_and_no_other(self):
        told = sorted(name for rows in FIELDS.values() for name in rows)
        made = sorted(name for name, value in vars(errors).items() if inspect.isclass(value))
        self.assertEqual(made, told)
        for made_class, _, _ in every_error():
            self.assertEqual(made_class.__module__, "sieveways.errors")

    def test_each_error_stands_directly_below_its_python_error(self):
        for made_class, base, _ in every_error():
            self.assertEqual(made_class.__bases__, (base,), made_class)

    def test_an_error_is_of_no_other_error(self):
        classes = [made_class for made_class, _, _ in every_error()]
        for made_class, base, fields in every_error():
            error = made_class(*fields)
            kinds = [other for other in classes if isinstance(error, other)]
            self.assertEqual(kinds, [made_class])
            kinds = [other for other in (ValueError, LookupError, RuntimeError) if isinstance(error, other)]
            self.assertEqual(kinds, [base])

    def test_fields_are_kept_as_they_are(self):
        for made_class, _, fields in every_error():
            for value in any_values():
                given = {name: value for name in fields}
                for error in (made_class(*given.values()), made_class(**given)):
                    for name in fields:
                        self.assertIs(getattr(error, name), value)

    def test_two_fields_stand_in_the_told_order(self):
        error = errors.Unknown("one", "two")
        self.assertEqual([error.name, error.word], ["one", "two"])
        error = errors.Unknown(word="two", name="one")
        self.assertEqual([error.name, error.word], ["one", "two"])
        error = errors.Failed(3, "field")
        self.assertEqual([error.index, error.reason], [3, "field"])
        error = errors.Failed(reason="field", index=3)
        self.assertEqual([error.index, error.reason], [3, "field"])

    def test_another_number_of_arguments_is_refused(self):
        for made_class, _, fields in every_error():
            with self.assertRaises(TypeError):
                made_class()
            with self.assertRaises(TypeError):
                made_class(*fields, 1)
            with self.assertRaises(TypeError):
                made_class(*fields[1:], other=1)

    def test_an_error_keeps_the_very_value_when_it_is_changed(self):
        value = [1]
        error = errors.InvalidDatum(value)
        value.append(2)
        self.assertEqual(error.value, [1, 2])

    def test_errors_are_raised_and_caught_by_name(self):
        for made_class, base, fields in every_error():
            with self.assertRaises(base):
                raise made_class(*fields)
