"""The package as a whole: what the interface lists exists under its name, as it is listed."""

import doctest
import importlib
import inspect
import unittest
from pathlib import Path

# For each module its constants, and its functions with their parameters as they are listed.
MODULES = {
    "words": (
        ("LETTERS", "MARKED", "MAX_COPIES", "EMPTY"),
        {
            "joined": "(*words)",
            "repeated": "(word, many)",
            "mirror": "(word)",
            "is_empty": "(word)",
            "letter_count": "(word, letter)",
            "length": "(word)",
            "depth": "(word)",
            "node_count": "(word)",
            "unmarked": "(word)",
        },
    ),
    "wordtext": (
        ("MAX_TEXT", "MAX_OPEN", "MAX_DEPTH"),
        {
            "parse_word": "(text)",
            "format_word": "(word)",
            "names_in": "(word)",
        },
    ),
    "places": (
        (),
        {
            "letter_at": "(word, address)",
            "compare": "(word, one, other)",
            "cut": "(word, address)",
            "first_place": "(word)",
            "last_place": "(word)",
            "walk": "(word, *, many=10)",
        },
    ),
    "formulas": (
        ("PLACES", "SETS"),
        {
            "free_variables": "(formula)",
            "formula_size": "(formula)",
            "nesting": "(formula)",
            "formula_names": "(formula)",
        },
    ),
    "formulatext": (
        ("MAX_NODES", "MAX_NESTING"),
        {
            "parse_formula": "(text)",
            "format_formula": "(formula)",
        },
    ),
}
ERRORS = {
    "InvalidText": "(position)",
    "TooLarge": "(limit)",
    "InvalidAddress": "()",
    "FreeVariables": "(variables)",
    "InvalidValue": "(number)",
    "InvalidLetters": "(position)",
    "InvalidName": "(name)",
    "DuplicateName": "(name)",
    "WrongKind": "(name)",
    "CircularName": "(name)",
    "NameInUse": "(name)",
    "LimitReached": "(limit)",
    "InvalidCommand": "(position)",
    "UnknownName": "(name)",
    "EmptyHistory": "()",
}


def module(name):
    return importlib.import_module(f"scatterwords.{name}")


class Interface(unittest.TestCase):
    def test_constants_exist(self):
        for name, (constants, _) in MODULES.items():
            for constant in constants:
                self.assertTrue(hasattr(module(name), constant), constant)

    def test_functions_and_their_parameters(self):
        for name, (_, functions) in MODULES.items():
            for function, parameters in functions.items():
                with self.subTest(f"{name}.{function}"):
                    found = getattr(module(name), function)
                    self.assertTrue(inspect.isfunction(found))
                    self.assertEqual(str(inspect.signature(found)), parameters)

    def test_functions_are_defined_where_they_are_listed(self):
        for name, (_, functions) in MODULES.items():
            for function in functions:
                found = getattr(module(name), function)
                self.assertEqual(found.__module__, f"scatterwords.{name}")

    def test_errors_and_their_parameters(self):
        for name, parameters in ERRORS.items():
            with self.subTest(name):
                found = getattr(module("errors"), name)
                self.assertEqual(found.__module__, "scatterwords.errors")
                self.assertEqual(str(inspect.signature(found)), parameters)


class Readme(unittest.TestCase):
    def test_the_examples_hold(self):
        text = (Path(__file__).resolve().parent.parent / "README.md").read_text()
        examples = doctest.DocTestParser().get_doctest(
            text.replace("```", ""), {}, "README.md", "README.md", 0)
        self.assertGreater(len(examples.examples), 5)
        self.assertEqual(doctest.DocTestRunner().run(examples).failed, 0)


if __name__ == "__main__":
    unittest.main()
