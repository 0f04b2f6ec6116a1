"""The package as a whole: what the interface lists exists under its name, as it is listed."""

import doctest
import importlib
import inspect
import unittest
from pathlib import Path

# For each module its constants, and its functions with their parameters as they are listed.
MODULES = {
    "words": (
        ("LETTERS", "MARKED", "MAX_COPIES", "EMPTY"),
        {
            "joined": "(*words)",
            "repeated": "(word, many)",
            "mirror": "(word)",
            "is_empty": "(word)",
            "letter_count": "(word, letter)",
            "length": "(word)",
            "depth": "(word)",
            "node_count": "(word)",
            "unmarked": "(word)",
        },
    ),
    "wordtext": (
        ("MAX_TEXT", "MAX_OPEN", "MAX_DEPTH"),
        {
            "parse_word": "(text)",
            "format_word": "(word)",
            "names_in": "(word)",
        },
    ),
    "places": (
        (),
        {
            "letter_at": "(word, address)",
            "compare": "(word, one, other)",
            "cut": "(word, address)",
            "first_place": "(word)",
            "last_place": "(word)",
            "walk": "(word, *, many=10)",
        },
    ),
    "formulas": (
        ("PLACES", "SETS"),
        {
            "free_variables": "(formula)",
            "formula_size": "(formula)",
            "nesting": "(formula)",
            "formula_names": "(formula)",
        },
    ),
    "formulatext": (
        ("MAX_NODES", "MAX_NESTING"),
        {
            "parse_formula": "(text)",
            "format_formula": "(formula)",
        },
    ),
    "tables": (
        (),
        {
            "compiled": "(formula)",
            "example": "(table)",
            "parting": "(one, other)",
            "within": "(one, other)",
        },
    ),
    "queries": ((), {}),
    "steps": (
        ("MAX_RULES", "MAX_LETTERS"),
        {
            "run_all": "(word, *steps)",
            "pulled_through": "(table, *steps)",
        },
    ),
    "books": ((), {}),
}
# For each class its module, its parameters, and its methods with theirs behind the object.
CLASSES = {
    "Table": ("tables", None, {
        "letter": "(sign)",
        "product": "(one, other)",
        "power": "(value, many)",
        "right": "(value)",
        "left": "(value)",
        "accepts": "(value)",
        "value": "(word)",
        "witness": "(value)",
        "opposite": "()",
        "both": "(other)",
        "either": "(other)",
        "differing": "(other)",
        "__contains__": "(word)",
        "__eq__": "(other)",
        "__len__": "()",
        "__repr__": "()",
    }),
    "Query": ("queries", "(formula)", {
        "holds": "(word, address)",
        "holds_between": "(ahead, letter, behind)",
        "total": "(word)",
        "first": "(word)",
        "last": "(word)",
        "marked": "(word)",
    }),
    "Step": ("steps", "(*rules)", {
        "run": "(word)",
        "letters_at": "(word, address)",
        "letters_between": "(ahead, letter, behind)",
        "pulled_back": "(table)",
        "difference": "(other)",
        "__len__": "()",
        "__repr__": "()",
    }),
    "Book": ("books", "()", {
        "apply": "(*commands)",
        "undo": "()",
        "redo": "()",
        "history": "()",
        "set_room": "(most)",
        "known_names": "(*, kind=None)",
        "kind_of": "(name)",
        "text": "(name)",
        "uses": "(name)",
        "users": "(name)",
        "table": "(name)",
        "compiled_names": "()",
        "holds": "(formula, word)",
        "value": "(formula, word)",
        "facts": "()",
        "twin": "()",
        "__len__": "()",
        "__eq__": "(other)",
        "__contains__": "(name)",
        "__repr__": "()",
    }),
    "WatchBook": ("books", "()", {
        "apply": "(*commands)",
        "watch": "(formula, word)",
        "news": "()",
    }),
}
PROPERTIES = {
    "Table": ("size",),
    "Book": ("room", "compilations"),
    "WatchBook": ("refused",),
}
ERRORS = {
    "InvalidText": "(position)",
    "TooLarge": "(limit)",
    "InvalidAddress": "()",
    "FreeVariables": "(variables)",
    "InvalidValue": "(number)",
    "InvalidLetters": "(position)",
    "InvalidName": "(name)",
    "DuplicateName": "(name)",
    "WrongKind": "(name)",
    "CircularName": "(name)",
    "NameInUse": "(name)",
    "LimitReached": "(limit)",
    "InvalidCommand": "(position)",
    "UnknownName": "(name)",
    "EmptyHistory": "()",
}


def module(name):
    return importlib.import_module(f"scatterwords.{name}")


class Interface(unittest.TestCase):
    def test_constants_exist(self):
        for name, (constants, _) in MODULES.items():
            for constant in constants:
                self.assertTrue(hasattr(module(name), constant), constant)

    def test_functions_and_their_parameters(self):
        for name, (_, functions) in MODULES.items():
            for function, parameters in functions.items():
                with self.subTest(f"{name}.{function}"):
                    found = getattr(module(name), function)
                    self.assertTrue(inspect.isfunction(found))
                    self.assertEqual(str(inspect.signature(found)), parameters)

    def test_functions_are_defined_where_they_are_listed(self):
        for name, (_, functions) in MODULES.items():
            for function in functions:
                found = getattr(module(name), function)
                self.assertEqual(found.__module__, f"scatterwords.{name}")

    def test_errors_and_their_parameters(self):
        for name, parameters in ERRORS.items():
            with self.subTest(name):
                found = getattr(module("errors"), name)
                self.assertEqual(found.__module__, "scatterwords.errors")
                self.assertEqual(str(inspect.signature(found)), parameters)


class Classes(unittest.TestCase):
    def test_classes_are_defined_where_they_are_listed(self):
        for name, (place, parameters, _) in CLASSES.items():
            with self.subTest(name):
                found = getattr(module(place), name)
                self.assertEqual(found.__module__, f"scatterwords.{place}")
                if parameters is not None:
                    self.assertEqual(str(inspect.signature(found)), parameters)

    def test_methods_are_defined_in_the_class_itself(self):
        for name, (place, _, methods) in CLASSES.items():
            for method, parameters in methods.items():
                with self.subTest(f"{name}.{method}"):
                    held = vars(getattr(module(place), name))[method]
                    self.assertTrue(inspect.isfunction(held))
                    listed = list(inspect.signature(held).parameters.values())[1:]
                    self.assertEqual(str(inspect.Signature(listed)), parameters)

    def test_properties_and_class_methods(self):
        for name, properties in PROPERTIES.items():
            for held in properties:
                found = vars(getattr(module(CLASSES[name][0]), name))[held]
                self.assertIsInstance(found, property)
        table = module("tables").Table
        self.assertIsInstance(vars(table)["constant"], classmethod)
        self.assertEqual(str(inspect.signature(table.constant)), "(answer)")

    def test_base_classes(self):
        books = module("books")
        self.assertEqual(books.WatchBook.__bases__, (books.Book,))
        self.assertEqual(vars(books.Book)["MOST"], 10)


class Readme(unittest.TestCase):
    def test_the_examples_hold(self):
        text = (Path(__file__).resolve().parent.parent / "README.md").read_text()
        examples = doctest.DocTestParser().get_doctest(
            text.replace("```", ""), {}, "README.md", "README.md", 0)
        self.assertGreater(len(examples.examples), 5)
        self.assertEqual(doctest.DocTestRunner().run(examples).failed, 0)


if __name__ == "__main__":
    unittest.main()
