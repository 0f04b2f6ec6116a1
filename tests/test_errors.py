"""scatterwords/errors.py: base classes, attributes and codes of all errors."""

import copy
import inspect
import unittest

from scatterwords import errors

SCATTER_ERRORS = (
    ("InvalidText", "position", 7),
    ("TooLarge", "limit", 200),
    ("InvalidAddress", None, None),
    ("FreeVariables", "variables", ["X", "y"]),
    ("InvalidValue", "number", -1),
    ("InvalidLetters", "position", 2),
    ("InvalidName", "name", "Oak"),
    ("DuplicateName", "name", "oak"),
    ("WrongKind", "name", "oak"),
    ("CircularName", "name", "oak"),
    ("NameInUse", "name", "oak"),
    ("LimitReached", "limit", 10),
    ("InvalidCommand", "position", 3),
)
MISSING = (
    ("UnknownName", "name", "oak"),
    ("EmptyHistory", None, None),
)


def created(name, attribute, value):
    """Return an error with its only argument, if it has one."""
    error = getattr(errors, name)
    return error() if attribute is None else error(value)


class Classes(unittest.TestCase):
    def test_base_classes_of_the_two_families(self):
        self.assertEqual(errors.ScatterError.__bases__, (ValueError,))
        self.assertEqual(errors.Missing.__bases__, (LookupError,))

    def test_each_error_has_only_the_base_of_its_family(self):
        for rows, base in ((SCATTER_ERRORS, errors.ScatterError), (MISSING, errors.Missing)):
            for name, _, _ in rows:
                with self.subTest(name):
                    self.assertEqual(getattr(errors, name).__bases__, (base,))

    def test_there_is_no_other_error(self):
        found = [name for name, _ in inspect.getmembers(errors, inspect.isclass)]
        listed = [row[0] for row in SCATTER_ERRORS + MISSING]
        self.assertEqual(found, sorted([*listed, "ScatterError", "Missing"]))


class Objects(unittest.TestCase):
    def test_code_is_the_name_of_the_class(self):
        for row in SCATTER_ERRORS + MISSING:
            with self.subTest(row[0]):
                self.assertEqual(created(*row).code, row[0])
        self.assertEqual(errors.ScatterError().code, "ScatterError")
        self.assertEqual(errors.Missing().code, "Missing")

    def test_attribute_by_position_and_by_name(self):
        for name, attribute, value in SCATTER_ERRORS + MISSING:
            if attribute is not None:
                with self.subTest(name):
                    error = getattr(errors, name)
                    self.assertEqual(getattr(error(value), attribute), value)
                    self.assertEqual(getattr(error(**{attribute: value}), attribute), value)

    def test_the_attribute_is_the_only_argument(self):
        for name, attribute, value in SCATTER_ERRORS + MISSING:
            with self.subTest(name):
                error = getattr(errors, name)
                given = [] if attribute is None else [value]
                self.assertEqual(list(error(*given).args), given)
                self.assertRaises(TypeError, error, *given, 1)
                if given:
                    self.assertRaises(TypeError, error)

    def test_code_and_attribute_are_set_on_the_object(self):
        for name, attribute, value in SCATTER_ERRORS + MISSING:
            with self.subTest(name):
                held = vars(created(name, attribute, value))
                self.assertEqual(held["code"], name)
                if attribute is not None:
                    self.assertEqual(held[attribute], value)

    def test_can_be_raised_caught_by_the_base_and_shown(self):
        for row in SCATTER_ERRORS:
            with self.assertRaises(ValueError) as caught:
                raise created(*row)
            self.assertTrue(str(caught.exception))
        for row in MISSING:
            with self.assertRaises(LookupError) as caught:
                raise created(*row)
            self.assertTrue(str(caught.exception))

    def test_a_copy_is_the_same_error(self):
        for name, attribute, value in SCATTER_ERRORS + MISSING:
            with self.subTest(name):
                error = created(name, attribute, value)
                twin = copy.copy(error)
                self.assertEqual((twin.code, str(twin), twin.args),
                                 (error.code, str(error), error.args))


if __name__ == "__main__":
    unittest.main()
