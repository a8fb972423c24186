"""Promise [2] and interface, keptbythree.errors: fields, bases, copies."""

import unittest

from keptbythree import errors
from samples import any_values, nested

BASES = (errors.KeptError, IndexError, KeyError, LookupError, OverflowError, RuntimeError)

CLASSES = [
    (errors.BadKind, errors.KeptError, ["x", "y"]),
    (errors.BadSize, errors.KeptError, ["given"]),
    (errors.BadEntries, errors.KeptError, []),
    (errors.BadRow, errors.KeptError, ["row"]),
    (errors.NotClosed, errors.KeptError, ["x", "y", "z"]),
    (errors.KindsDiffer, errors.KeptError, ["place", "other"]),
    (errors.BadOrder, errors.KeptError, []),
    (errors.BadName, errors.KeptError, ["name"]),
    (errors.BadConstraint, errors.KeptError, []),
    (errors.BadCommand, errors.KeptError, []),
    (errors.BadPlace, IndexError, ["place"]),
    (errors.UnknownName, KeyError, ["name"]),
    (errors.DuplicateName, KeyError, ["name"]),
    (errors.UnknownNumber, KeyError, ["number"]),
    (errors.EmptySet, LookupError, []),
    (errors.Known, LookupError, ["row"]),
    (errors.WrongState, LookupError, ["name"]),
    (errors.NothingLeft, LookupError, []),
    (errors.Full, OverflowError, ["most"]),
    (errors.Busy, RuntimeError, []),
]


class Bases(unittest.TestCase):
    def test_kept_error_is_directly_under_value_error(self):
        self.assertEqual(errors.KeptError.__bases__, (ValueError,))

    def test_each_class_is_directly_under_its_base(self):
        for made, base, _ in CLASSES:
            self.assertEqual(made.__bases__, (base,), made)

    def test_no_class_is_under_another_base(self):
        for made, base, _ in CLASSES:
            for other in (ValueError, *BASES):
                self.assertEqual(issubclass(made, other), issubclass(base, other), (made, other))

    def test_each_class_is_defined_in_errors(self):
        for made, _, _ in CLASSES:
            self.assertEqual(made.__module__, "keptbythree.errors")
            self.assertIs(getattr(errors, made.__name__), made)

    def test_each_class_can_be_raised_and_caught_by_its_base(self):
        for made, base, fields in CLASSES:
            with self.assertRaises(base) as caught:
                raise made(*fields)
            self.assertIs(caught.exception.__class__, made)


class Fields(unittest.TestCase):
    def test_by_position(self):
        for made, _, fields in CLASSES:
            error = made(*[("value of", field) for field in fields])
            for field in fields:
                self.assertEqual(getattr(error, field), ("value of", field))

    def test_by_name_in_another_order(self):
        for made, _, fields in CLASSES:
            error = made(**{field: ("value of", field) for field in reversed(fields)})
            for field in fields:
                self.assertEqual(getattr(error, field), ("value of", field))

    def test_no_field_may_be_missing_and_none_more_given(self):
        for made, _, fields in CLASSES:
            if fields:
                self.assertRaises(TypeError, made, *fields[1:])
                self.assertRaises(TypeError, made, *fields, 1)
            self.assertRaises(TypeError, made, **{field: 1 for field in fields}, more=1)

    def test_fields_are_any_values(self):
        for made, _, fields in CLASSES:
            for value in any_values():
                error = made(*[value for _ in fields])
                for field in fields:
                    self.assertEqual(repr(getattr(error, field)), repr(value))

    def test_true_stays_true(self):
        for made, _, fields in CLASSES:
            error = made(*[True for _ in fields])
            for field in fields:
                self.assertIs(getattr(error, field), True)

    def test_fields_are_copies(self):
        for made, _, fields in CLASSES:
            value = [1, ([2], "x")]
            error = made(*[value for _ in fields])
            value[1][0].append(3)
            value.append(4)
            for field in fields:
                self.assertEqual(getattr(error, field), [1, ([2], "x")])
                getattr(error, field).append(5)
            self.assertEqual(value, [1, ([2, 3], "x"), 4])

    def test_fields_may_be_deep(self):
        self.assertEqual(errors.BadRow(nested(60, 1)).row, nested(60, 1))

    def test_fields_may_be_objects_of_any_class(self):
        thing = object()
        self.assertIs(errors.BadSize(thing).given, thing)


if __name__ == "__main__":
    unittest.main()
