"""scatterwords/formulas.py: free variables, sizes, nesting and names of formulas."""

import copy
import unittest

from helpers import some_formulas
from scatterwords import formulas
from scatterwords.formulas import formula_names, formula_size, free_variables, nesting
from scatterwords.formulatext import parse_formula

LETTER = ("letter", "a", "x")

# The text of a formula, its free variables, its nodes, and its quantifiers within one another.
MEASURED = (
    ("a(x)", ["x"], 1, 0),
    ("c(z)", ["z"], 1, 0),
    ("x < y", ["x", "y"], 1, 0),
    ("y < x", ["x", "y"], 1, 0),
    ("z next x", ["x", "z"], 1, 0),
    ("y = y", ["y"], 1, 0),
    ("x < x", ["x"], 1, 0),
    ("x in X", ["X", "x"], 1, 0),
    ("y in Z", ["Z", "y"], 1, 0),
    ("{oak}", [], 1, 0),
    ("not a(x)", ["x"], 2, 0),
    ("not not {oak}", [], 3, 0),
    ("(a(x) and a(x))", ["x"], 3, 0),
    ("(z in X or x in Z)", ["X", "Z", "x", "z"], 3, 0),
    ("(x in X and (y in Y and z in Z))", ["X", "Y", "Z", "x", "y", "z"], 5, 0),
    ("some x a(x)", [], 2, 1),
    ("all x a(x)", [], 2, 1),
    ("some x a(y)", ["y"], 2, 1),
    ("some y x < y", ["x"], 2, 1),
    ("all y y next x", ["x"], 2, 1),
    ("some X x in X", ["x"], 2, 1),
    ("some x x in X", ["X"], 2, 1),
    ("all Y x in X", ["X", "x"], 2, 1),
    ("some X {oak}", [], 2, 1),
    ("some x some X x in X", [], 3, 2),
    ("some X all x x in X", [], 3, 2),
    ("some x all y some z (x < y or y = z)", [], 6, 3),
    ("some x not all x a(x)", [], 4, 2),
    ("some x some x a(x)", [], 3, 2),
    ("some x some x a(y)", ["y"], 3, 2),
    ("(a(x) and some x a(x))", ["x"], 4, 1),
    ("(some x a(x) and a(x))", ["x"], 4, 1),
    ("(some x a(x) or all x b(x))", [], 5, 1),
    ("(some x a(x) or all y some z x < y)", ["x"], 6, 2),
    ("(all y some z y < z or all x x < z)", ["z"], 6, 2),
    ("some x (a(x) and some x b(x))", [], 5, 2),
    ("(x in X and all X x in X)", ["X", "x"], 4, 1),
    ("all X (x in X or some x x in X)", ["x"], 5, 2),
    ("not some x not (x in X and not not x in Y)", ["X", "Y"], 8, 1),
)


class Constants(unittest.TestCase):
    def test_values(self):
        self.assertEqual((formulas.PLACES, formulas.SETS), ("xyz", "XYZ"))


class Measures(unittest.TestCase):
    def test_free_variables(self):
        for text, variables, _, _ in MEASURED:
            with self.subTest(text):
                self.assertEqual(free_variables(parse_formula(text)), variables)

    def test_formula_size(self):
        for text, _, size, _ in MEASURED:
            with self.subTest(text):
                self.assertEqual(formula_size(parse_formula(text)), size)

    def test_nesting(self):
        for text, _, _, levels in MEASURED:
            with self.subTest(text):
                self.assertEqual(nesting(parse_formula(text)), levels)

    def test_a_place_and_a_set_are_different_variables(self):
        self.assertEqual(free_variables(("some", "x", ("in", "x", "X"))), ["X"])
        self.assertEqual(free_variables(("some", "X", ("in", "x", "X"))), ["x"])

    def test_what_a_choice_makes_of_the_free_variables(self):
        for formula in some_formulas(3):
            inner = free_variables(formula)
            self.assertEqual(inner, sorted(set(inner)))
            for variable in "XYZxyz":
                for kind in ("some", "all"):
                    self.assertEqual(free_variables((kind, variable, formula)),
                                     [sign for sign in inner if sign != variable])
            self.assertEqual(free_variables(("not", formula)), inner)
            self.assertEqual(free_variables(("and", ("in", "y", "Y"), formula)),
                             sorted({*inner, "y", "Y"}))

    def test_sums(self):
        for formula in some_formulas(3):
            size, levels = formula_size(formula), nesting(formula)
            self.assertEqual(formula_size(("or", formula, LETTER)), size + 2)
            self.assertEqual(formula_size(("and", formula, formula)), 2 * size + 1)
            self.assertEqual(formula_size(("all", "X", formula)), size + 1)
            self.assertEqual(nesting(("all", "X", formula)), levels + 1)
            self.assertEqual(nesting(("not", formula)), levels)
            self.assertEqual(nesting(("or", ("some", "x", LETTER), formula)), max(levels, 1))

    def test_40_nodes(self):
        formula = LETTER
        for _ in range(39):
            formula = ("not", formula)
        self.assertEqual((formula_size(formula), nesting(formula)), (40, 0))
        self.assertEqual(free_variables(formula), ["x"])
        for _ in range(60):
            formula = ("some", "X", formula)
        self.assertEqual((formula_size(formula), nesting(formula)), (100, 60))

    def test_by_name(self):
        self.assertEqual(free_variables(formula=LETTER), ["x"])
        self.assertEqual(formula_size(formula=LETTER), 1)
        self.assertEqual(nesting(formula=LETTER), 0)


class Names(unittest.TestCase):
    def test_ascending_each_once(self):
        rows = (
            ("a(x)", []),
            ("some x x in X", []),
            ("{oak}", ["oak"]),
            ("({oak} and {elm})", ["elm", "oak"]),
            ("({oak} or ({elm} and {oak}))", ["elm", "oak"]),
            ("not {x}", ["x"]),
            ("some x (a(x) and all Y not {oak})", ["oak"]),
            ("(({b} and {ab}) or ({aa} and some x {b}))", ["aa", "ab", "b"]),
        )
        for text, names in rows:
            with self.subTest(text):
                self.assertEqual(formula_names(parse_formula(text)), names)

    def test_by_name(self):
        self.assertEqual(formula_names(formula=("named", "oak")), ["oak"])


class General(unittest.TestCase):
    """[2]: returned lists are new, arguments are not changed, equal calls are equal."""

    def test_lists_are_new(self):
        for text in ("{oak}", "a(x)", "x < y", "(a(x) and {oak})", "some x x in X"):
            formula = parse_formula(text)
            for act in (free_variables, formula_names):
                first = act(formula)
                again = list(first)
                self.assertIs(type(first), list)
                first.append("z")
                self.assertEqual(act(formula), again)

    def test_equal_calls(self):
        for formula in some_formulas(3)[::11]:
            same = copy.deepcopy(formula)
            for act in (free_variables, formula_size, nesting, formula_names):
                self.assertEqual(act(formula), act(same))
            self.assertEqual(formula, same)


if __name__ == "__main__":
    unittest.main()
