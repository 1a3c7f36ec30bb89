import unittest

from relinktree import errors

# Each class with its direct base class and its fields.
CLASSES = {
    "RelinkTreeError": (ValueError, None),
    "InvalidName": (errors.RelinkTreeError, ("value",)),
    "InvalidWord": (errors.RelinkTreeError, ("value",)),
    "InvalidTree": (errors.RelinkTreeError, ("reason", "value")),
    "InvalidRelink": (errors.RelinkTreeError, ("value",)),
    "InvalidItem": (errors.RelinkTreeError, ("value",)),
    "InvalidStep": (errors.RelinkTreeError, ("host", "kind")),
    "InvalidEvent": (errors.RelinkTreeError, ("value",)),
    "InvalidChoice": (errors.RelinkTreeError, ("value",)),
    "InvalidScript": (errors.RelinkTreeError, ("value",)),
    "InvalidPlan": (errors.RelinkTreeError, ("index",)),
    "InvalidText": (errors.RelinkTreeError, ("value",)),
    "InvalidLine": (errors.RelinkTreeError, ("line",)),
    "InvalidCommand": (errors.RelinkTreeError, ("value",)),
    "UnknownHost": (LookupError, ("host",)),
    "EmptyChannel": (LookupError, ("source", "goal")),
    "Busy": (RuntimeError, ("host",)),
    "NotLinked": (RuntimeError, ("host", "other")),
    "NotALeaf": (RuntimeError, ("host",)),
    "NameTaken": (RuntimeError, ("value",)),
    "NotAtRest": (RuntimeError, ("channels",)),
    "NoNetwork": (RuntimeError, ()),
    "TooMany": (ArithmeticError, ("limit",)),
}

WITH_FIELDS = {name: CLASSES[name] for name in CLASSES if CLASSES[name][1] is not None}


class Errors(unittest.TestCase):
    def test_every_class_has_its_direct_base_class(self):
        for name, (base, _) in CLASSES.items():
            self.assertEqual(getattr(errors, name).__bases__, (base,), name)

    def test_there_is_no_other_class(self):
        classes = [name for name in vars(errors) if isinstance(getattr(errors, name), type)]
        self.assertEqual(sorted(classes), sorted(CLASSES))

    def test_fields_by_position(self):
        for name, (_, fields) in WITH_FIELDS.items():
            values = [["value of", field] for field in fields]
            error = getattr(errors, name)(*values)
            for field, value in zip(fields, values):
                self.assertIs(getattr(error, field), value)

    def test_fields_by_name(self):
        for name, (_, fields) in WITH_FIELDS.items():
            values = {field: ["value of", field] for field in fields}
            error = getattr(errors, name)(**values)
            for field in fields:
                self.assertIs(getattr(error, field), values[field])

    def test_no_other_fields(self):
        for name, (_, fields) in WITH_FIELDS.items():
            error = getattr(errors, name)(*fields)
            self.assertEqual(sorted(vars(error)), sorted(fields), name)

    def test_the_number_of_arguments(self):
        for name, (_, fields) in WITH_FIELDS.items():
            with self.assertRaises(TypeError):
                getattr(errors, name)(*fields, "more")
            if fields:
                with self.assertRaises(TypeError):
                    getattr(errors, name)(*fields[1:])

    def test_no_error_is_another_one(self):
        for name in WITH_FIELDS:
            error = getattr(errors, name)(*WITH_FIELDS[name][1])
            for other in CLASSES:
                is_base = other == "RelinkTreeError" and CLASSES[name][0] is errors.RelinkTreeError
                self.assertIs(isinstance(error, getattr(errors, other)), other == name or is_base, (name, other))

    def test_they_can_be_raised_and_caught(self):
        for name, (base, fields) in WITH_FIELDS.items():
            with self.assertRaises(base) as caught:
                raise getattr(errors, name)(*fields)
            self.assertIs(type(caught.exception), getattr(errors, name))

    def test_the_base_class_takes_a_text(self):
        error = errors.RelinkTreeError("some text")
        self.assertEqual(str(error), "some text")
        self.assertEqual(error.args, ("some text",))
        self.assertIsInstance(error, ValueError)
