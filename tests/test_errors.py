"""Points 2 and 3, and the interface's section deedstore/errors.py."""

import unittest

from deedstore import errors

FIELDS = {
    "NoText": (ValueError, ("index",)),
    "BadThing": (ValueError, ("reason", "word")),
    "BadTree": (ValueError, ("path", "word")),
    "BadDeed": (ValueError, ("index",)),
    "BadArgs": (ValueError, ("word",)),
    "Known": (LookupError, ("word",)),
    "Unknown": (LookupError, ("word",)),
    "Used": (LookupError, ("word",)),
    "NoMark": (LookupError, ("k",)),
    "InTransaction": (RuntimeError, ()),
    "NoTransaction": (RuntimeError, ()),
    "Busy": (RuntimeError, ()),
    "NotEnded": (RuntimeError, ()),
    "Stale": (RuntimeError, ("word", "place", "fault")),
    "Raised": (
        RuntimeError,
        ("word", "details", "program", "place", "stack", "causes", "history", "trace"),
    ),
}


class Odd:
    """A value that can neither be compared nor shown."""

    def __eq__(self, other):
        raise AssertionError("compared")

    def __repr__(self):
        raise AssertionError("shown")

    __hash__ = None


def any_values(many):
    """Different objects of many sorts, as many as are asked for."""
    found = [Odd(), [1, [2]], {"a": []}, ("x", (None,)), 10 ** 5000, None, "text", [True]]
    return found[:many]


class ErrorsTest(unittest.TestCase):
    def each(self):
        return [(getattr(errors, name), base, fields) for name, (base, fields) in FIELDS.items()]

    def check_fields(self, error, fields, values):
        for field, value in zip(fields, values):
            self.assertIs(getattr(error, field), value, field)

    def test_base_classes(self):
        for made, base, _ in self.each():
            self.assertEqual(made.__bases__, (base,), made.__name__)

    def test_no_class_is_below_another_one(self):
        for made, _, _ in self.each():
            above = [name for name in FIELDS if issubclass(made, getattr(errors, name))]
            self.assertEqual(above, [made.__name__])

    def test_nothing_else_is_an_error(self):
        found = {name for name, x in vars(errors).items() if isinstance(x, type)}
        self.assertEqual(found, set(FIELDS))

    def test_defined_in_this_file(self):
        for made, _, _ in self.each():
            self.assertEqual(made.__module__, "deedstore.errors")

    def test_fields_by_position(self):
        for made, _, fields in self.each():
            values = any_values(len(fields))
            self.check_fields(made(*values), fields, values)

    def test_fields_by_name(self):
        for made, _, fields in self.each():
            values = any_values(len(fields))
            named = dict(reversed(list(zip(fields, values))))
            self.check_fields(made(**named), fields, values)

    def test_fields_by_position_and_name(self):
        for made, _, fields in self.each():
            values = any_values(len(fields))
            named = dict(zip(fields[1:], values[1:]))
            self.check_fields(made(*values[:1], **named), fields, values)

    def test_every_field_takes_any_value(self):
        for made, _, fields in self.each():
            for value in any_values(8):
                values = [value] * len(fields)
                self.check_fields(made(*values), fields, values)

    def test_passed_values_are_not_changed(self):
        details = [1, [2]]
        errors.Raised("a", details, "", (), (), (), (), ())
        errors.BadTree(details, {"k": details})
        self.assertEqual(details, [1, [2]])

    def test_no_more_attributes_than_fields(self):
        for made, _, fields in self.each():
            error = made(**dict.fromkeys(fields))
            self.assertEqual(set(vars(error)), set(fields))

    def test_too_few_and_too_many_fields(self):
        for made, _, fields in self.each():
            with self.assertRaises(TypeError, msg=made.__name__):
                made(*[0] * (len(fields) + 1))
            if fields:
                with self.assertRaises(TypeError, msg=made.__name__):
                    made(*[0] * (len(fields) - 1))

    def test_can_be_raised_and_caught(self):
        for made, base, fields in self.each():
            values = any_values(len(fields))
            with self.assertRaises(base) as caught:
                raise made(*values)
            self.assertIs(type(caught.exception), made)
            self.check_fields(caught.exception, fields, values)


if __name__ == "__main__":
    unittest.main()
