"""scatterwords/formulatext.py: the texts of formulas and their errors."""

import itertools
import unittest

from helpers import some_formulas
from scatterwords import formulatext
from scatterwords.errors import InvalidText, ScatterError, TooLarge
from scatterwords.formulas import formula_size, nesting
from scatterwords.formulatext import format_formula, parse_formula

A_X = ("letter", "a", "x")
B_Y = ("letter", "b", "y")
C_Z = ("letter", "c", "z")

# Texts that are written as format_formula writes them.
WRITTEN = (
    ("a(x)", A_X),
    ("b(y)", B_Y),
    ("c(z)", C_Z),
    ("c(x)", ("letter", "c", "x")),
    ("x < y", ("before", "x", "y")),
    ("z < z", ("before", "z", "z")),
    ("x next y", ("next", "x", "y")),
    ("y next x", ("next", "y", "x")),
    ("x = y", ("same", "x", "y")),
    ("z = x", ("same", "z", "x")),
    ("x in X", ("in", "x", "X")),
    ("z in Y", ("in", "z", "Y")),
    ("y in Z", ("in", "y", "Z")),
    ("not a(x)", ("not", A_X)),
    ("not not a(x)", ("not", ("not", A_X))),
    ("not x = y", ("not", ("same", "x", "y"))),
    ("(a(x) and b(y))", ("and", A_X, B_Y)),
    ("(a(x) or b(y))", ("or", A_X, B_Y)),
    ("((a(x) and b(y)) or c(z))", ("or", ("and", A_X, B_Y), C_Z)),
    ("(a(x) and (b(y) or c(z)))", ("and", A_X, ("or", B_Y, C_Z))),
    ("((a(x) or b(y)) and (b(y) or c(z)))", ("and", ("or", A_X, B_Y), ("or", B_Y, C_Z))),
    ("not (a(x) and b(y))", ("not", ("and", A_X, B_Y))),
    ("(not a(x) and b(y))", ("and", ("not", A_X), B_Y)),
    ("some x a(x)", ("some", "x", A_X)),
    ("all y a(x)", ("all", "y", A_X)),
    ("some X x in X", ("some", "X", ("in", "x", "X"))),
    ("all Z x in X", ("all", "Z", ("in", "x", "X"))),
    ("some x all Y x in Y", ("some", "x", ("all", "Y", ("in", "x", "Y")))),
    ("not some x not a(x)", ("not", ("some", "x", ("not", A_X)))),
    ("(some x a(x) or b(y))", ("or", ("some", "x", A_X), B_Y)),
    ("some x (a(x) or b(y))", ("some", "x", ("or", A_X, B_Y))),
    ("(all X not a(x) and b(y))", ("and", ("all", "X", ("not", A_X)), B_Y)),
    ("{oak}", ("named", "oak")),
    ("{a}", ("named", "a")),
    ("{x}", ("named", "x")),
    ("{not}", ("named", "not")),
    ("{some}", ("named", "some")),
    ("{abcdefgh}", ("named", "abcdefgh")),
    ("not {oak}", ("not", ("named", "oak"))),
    ("some x {oak}", ("some", "x", ("named", "oak"))),
    ("({oak} and {elm})", ("and", ("named", "oak"), ("named", "elm"))),
)

# Texts with other spaces.
LOOSE = (
    ("x<y", "x < y"),
    ("x  <   y", "x < y"),
    ("x= y", "x = y"),
    ("x  next  y", "x next y"),
    ("x inX", "x in X"),
    ("x in  X", "x in X"),
    ("a ( x )", "a(x)"),
    ("a( x)", "a(x)"),
    ("not  a(x)", "not a(x)"),
    ("not(a(x)and b(y))", "not (a(x) and b(y))"),
    ("not{oak}", "not {oak}"),
    ("( a(x)and b(y) )", "(a(x) and b(y))"),
    ("(a(x)or{oak})", "(a(x) or {oak})"),
    ("({oak}and{elm})", "({oak} and {elm})"),
    ("(x inX or{oak})", "(x in X or {oak})"),
    ("(x=y and y<z)", "(x = y and y < z)"),
    ("{ oak }", "{oak}"),
    ("{  x}", "{x}"),
    ("someX x inX", "some X x in X"),
    ("allZ{oak}", "all Z {oak}"),
    ("some x(a(x)and b(y))", "some x (a(x) and b(y))"),
    ("someX(a(x)and someY x inY)", "some X (a(x) and some Y x in Y)"),
    ("allX someY allZ{oak}", "all X some Y all Z {oak}"),
    (" a(x)", "a(x)"),
    ("a(x) ", "a(x)"),
    ("   not x   =   y   ", "not x = y"),
    ("a(x)" + " " * 296, "a(x)"),
)

# The text and the position of the first character that can stand nowhere.
NOWHERE = (
    ("A(x)", 0), ("a(x).", 4), ("a(W)", 2), ("x > y", 2), ("x\n< y", 1), ("\n", 0), ("a(x)\n", 4),
    ("1", 0), ("x1 < y", 1), ("x^y", 1), ("[x]", 0), ("x == 'y'", 5), ("x_y", 1), ("{oak1}", 4),
    ("{Oak}", 1), ("{oaK}", 3), ("x != y", 2), ("a(x) & b(x)", 5), ("~a(x)", 0), ("a(x),", 4),
    ("x-y", 1), ('"', 0), ("a(x) \t", 5), ("x in A", 5), ("x in W", 5), ("some B x in B", 5),
    ("x/y", 1), ("x:y", 1), ("x;y", 1), ("x@y", 1), ("x|y", 1), ("x+y", 1), ("x?y", 1),
)

# The text and the position of the first token that cannot stand where it stands.
MISPLACED = (
    # at the beginning of a formula
    (")", 0), ("}", 0), ("<", 0), ("=", 0), ("X", 0), ("X in x", 0), ("and", 0), ("or", 0),
    ("in", 0), ("next", 0), ("d(x)", 0), ("ab(x)", 0), ("abc", 0), ("bc(y)", 0), ("xy", 0),
    ("xyz < x", 0), ("yz = x", 0), ("xinX", 0), ("xnext y", 0), ("nota(x)", 0), ("notnot", 0),
    ("somex a(x)", 0), ("allx a(x)", 0), ("somexa(x)", 0), ("Xa", 0), ("  d(x)", 2), ("oak", 0),
    ("(}", 1), ("()", 1), ("( X", 2), ("not )", 4), ("not and", 4), ("not X", 4), ("((<", 2),
    # letters
    ("a)", 1), ("ax", 0), ("a x", 2), ("a<", 1), ("a{x}", 1), ("a((", 2), ("a()", 2), ("a(a)", 2),
    ("a(X)", 2), ("a(xy)", 2), ("a(yz)", 2), ("a(some)", 2), ("a(x(", 3), ("a(x}", 3),
    ("a(x y)", 4), ("a(Xx)", 2), ("a = x", 2), ("a and b", 2),
    # relations
    ("x", 1), ("x(y)", 1), ("x)", 1), ("x y", 2), ("x X", 2), ("x and y", 2), ("x < X", 4),
    ("x < a", 4), ("x < yz", 4), ("x < <", 4), ("x = = y", 4), ("x == y", 3), ("x <= y", 3),
    ("x = Y", 4), ("x next Y", 7), ("x nexty", 2), ("x next next", 7), ("x in y", 5),
    ("x in x", 5), ("x in in", 5), ("x in XY", 6), ("x in Xy", 5), ("x in (", 5), ("x iny", 2),
    ("x not in X", 2), ("x {", 2), ("x in some", 5),
    # two formulas
    ("(a(x))", 5), ("(a(x)})", 5), ("(a(x) b(y))", 6), ("(a(x) not b(y))", 6), ("(a(x) in", 6),
    ("(a(x) andb(y))", 6), ("(a(x) and and", 10), ("(a(x) and )", 10), ("(a(x) or X", 9),
    ("(a(x) and b(y) and c(z))", 15), ("(a(x) or b(y) or c(z))", 14), ("(a(x) or b(y)}", 13),
    ("(a(x) and b(y)(", 14), ("(x < y < z)", 7), ("(x = y and X)", 11), ("(not a(x))", 9),
    ("(some x a(x))", 12), ("({oak})", 6), ("(a(x) and (b(y)))", 15),
    # choices
    ("some a(x)", 5), ("some a", 5), ("some not", 5), ("some x y", 8), ("some xy a(x)", 5),
    ("some XY", 6), ("some x X", 7), ("all (x)", 4), ("all x)", 5), ("some x =", 7),
    ("some Xx a(x)", 5), ("all all", 4), ("some x and", 7), ("some x x in x", 12),
    ("all some x a(x)", 4), ("some {x}", 5), ("some some x a(x)", 5), ("all x x x", 8),
    # names
    ("{}", 1), ("{X}", 1), ("{Xab}", 1), ("{{oak}}", 1), ("{(", 1), ("{<", 1), ("{oak)", 4),
    ("{oak elm}", 5), ("{oakX}", 4), ("{oak{", 4), ("{abcdefghi}", 1), ("{ abcdefghi }", 2),
    ("{abcdefghijklmnop}", 1), ("not {abcdefghi}", 5), ("{abcdefghi", 1), ("{abcdefghX}", 9),
    # behind the end
    ("a(x))", 4), ("a(x) b(x)", 5), ("a(x) and b(x)", 5), ("a(x)a", 4), ("x < y < z", 6),
    ("x = y)", 5), ("x in X in", 7), ("x in X X", 7), ("x in XX", 6), ("{oak}}", 5),
    ("{oak}oak", 5),
    ("(a(x) or b(x)) ) ", 15), ("not a(x) not", 9), ("some x a(x) x", 12), ("x = y =", 6),
    ("(a(x) or b(x))or", 14), ("a(x) (", 5), ("x = y{", 5),
)

# Texts that end too early, some of them with spaces at their end.
TOO_SHORT = (
    "", " ", "   ", "a", "a(", "a(x", "a (x ", "x ", "x <", "x  ", "x =", "x next", "x next ",
    "x in", "x in ", "not", "not not ", "(", "((", "(a(x)", "(a(x) ", "(a(x) and", "(a(x) and b",
    "(a(x) and b(y)", "(a(x) or (b(y) or c(z))", "some", "some x", "all X", "some x all Y ",
    "some x not", "{", "{oak", "{ oak ", "{abcdefgh", "({oak} and ",
)


class Errors(unittest.TestCase):
    """Ways to check the error of a text."""

    def check_invalid(self, text, position):
        with self.subTest(text), self.assertRaises(InvalidText) as caught:
            parse_formula(text)
        self.assertEqual((text, caught.exception.position), (text, position))
        self.assertEqual(caught.exception.code, "InvalidText")

    def check_too_large(self, text, limit):
        with self.subTest(text), self.assertRaises(TooLarge) as caught:
            parse_formula(text)
        self.assertEqual((text, caught.exception.limit), (text, limit))
        self.assertEqual(caught.exception.code, "TooLarge")


class Constants(unittest.TestCase):
    def test_values(self):
        self.assertEqual((formulatext.MAX_NODES, formulatext.MAX_NESTING), (40, 3))


class Parsing(unittest.TestCase):
    def test_the_example_of_the_document(self):
        self.assertEqual(
            parse_formula("some y (x<y and b(y))"),
            ("some", "y", ("and", ("before", "x", "y"), ("letter", "b", "y"))))

    def test_trees(self):
        for text, formula in WRITTEN:
            with self.subTest(text):
                self.assertEqual(parse_formula(text), formula)

    def test_all_letters_and_variables(self):
        for letter, one, other, chosen in itertools.product("abc", "xyz", "xyz", "XYZ"):
            self.assertEqual(parse_formula(f"{letter}({one})"), ("letter", letter, one))
            self.assertEqual(parse_formula(f"{one}<{other}"), ("before", one, other))
            self.assertEqual(parse_formula(f"{one} next {other}"), ("next", one, other))
            self.assertEqual(parse_formula(f"{one}={other}"), ("same", one, other))
            self.assertEqual(parse_formula(f"{one} in {chosen}"), ("in", one, chosen))
            for variable in (one, chosen):
                for kind in ("some", "all"):
                    self.assertEqual(parse_formula(f"{kind} {variable} {{oak}}"),
                                     (kind, variable, ("named", "oak")))

    def test_other_spaces(self):
        for text, written in LOOSE:
            with self.subTest(text):
                self.assertEqual(format_formula(parse_formula(text)), written)

    def test_more_spaces_between_all_tokens(self):
        for text, formula in WRITTEN:
            spaced = text
            for sign in "(){}<=":
                spaced = spaced.replace(sign, f" {sign} ")
            for wide in (spaced, spaced.replace(" ", "   ")):
                with self.subTest(wide):
                    self.assertEqual(parse_formula(wide), formula)

    def test_the_shortest_formula_behind(self):
        for text in ("not a(x)", "some x a(x)", "all X not a(x)"):
            formula = parse_formula(text)
            for sign in ("and", "or"):
                self.assertEqual(parse_formula(f"({text} {sign} b(y))"), (sign, formula, B_Y))
                self.assertEqual(parse_formula(f"(b(y) {sign} {text})"), (sign, B_Y, formula))

    def test_tuples_throughout(self):
        hash(parse_formula("(not some x a(x) or all X (x in X and {oak}))"))

    def test_equal_calls_return_equal_formulas(self):
        for text, _ in WRITTEN:
            self.assertEqual(parse_formula(text), parse_formula(text))

    def test_by_name(self):
        self.assertEqual(parse_formula(text="a(x)"), A_X)


class Formatting(unittest.TestCase):
    def test_texts(self):
        for text, formula in WRITTEN:
            with self.subTest(text):
                self.assertEqual(format_formula(formula), text)

    def test_there_and_back(self):
        parsed = 0
        for formula in some_formulas(3):
            text = format_formula(formula)
            if len(text) <= 300 and formula_size(formula) <= 40 and nesting(formula) <= 3:
                parsed += 1
                self.assertEqual(parse_formula(text), formula)
        self.assertGreater(parsed, 500)

    def test_by_name(self):
        self.assertEqual(format_formula(formula=A_X), "a(x)")


class InvalidTexts(Errors):
    def test_characters_that_can_stand_nowhere(self):
        for text, position in NOWHERE:
            self.check_invalid(text, position)

    def test_each_character(self):
        # Where nothing but the end is expected, other characters are at fault as tokens.
        for code in (10, *range(32, 127)):
            sign = chr(code)
            if sign not in "abcdefghijklmnopqrstuvwxyzXYZ(){}<= ":
                self.check_invalid(")a(x)" + sign, 5)
            else:
                self.check_invalid(")a(x)" + sign, 0)

    def test_tokens_that_cannot_stand_there(self):
        for text, position in MISPLACED:
            self.check_invalid(text, position)

    def test_texts_that_end_too_early(self):
        for text in TOO_SHORT:
            self.check_invalid(text, len(text))

    def test_all_beginnings_of_formulas(self):
        for text, _ in WRITTEN:
            for size in range(len(text)):
                with self.subTest(text[:size]), self.assertRaises(InvalidText) as caught:
                    parse_formula(text[:size])
                # A token that is cut off can be none, or another one.
                begin = max(text.rfind(" ", 0, size), text.rfind("{", 0, size),
                            text.rfind("(", 0, size)) + 1
                self.assertIn(caught.exception.position, (size, begin))

    def test_characters_come_before_tokens(self):
        self.check_invalid(") a(x) .", 7)
        self.check_invalid("and A", 4)
        self.check_invalid("{abcdefghi} 1", 12)
        self.check_invalid("a(x) b(x) c(W)", 12)
        self.check_invalid("(a(x) >", 6)
        self.check_invalid(") A .", 2)

    def test_names(self):
        self.assertEqual(parse_formula("{abcdefgh}"), ("named", "abcdefgh"))
        self.check_invalid("{abcdefghi}", 1)
        self.check_invalid("(a(x) and {abcdefghi})", 11)

    def test_300_parentheses(self):
        self.check_invalid("(" * 300, 300)
        self.check_invalid("(" * 299 + ")", 299)

    def test_position_is_the_end_of_what_can_still_become_a_formula(self):
        # For each row of tokens the position says how many of them can be completed.
        firsts = ("", "a(x)", "x a(x)", "(x)", "x)", ")", "<x", "x", "X", "oak}", "}")
        endings = [first + "".join(more) for first in firsts for many in range(5)
                   for more in itertools.product((" and a(x))", ")"), repeat=many)]
        known = {}
        for size in range(5):
            for row in itertools.product(
                    ("a", "x", "X", "<", "in", "not", "some", "(", ")", "or", "{", "}"),
                    repeat=size):
                starts = [len(" ".join([*row[:many], ""])) for many in range(size + 1)]
                text = " ".join([*row, ""])
                try:
                    parse_formula(text)
                    continue
                except InvalidText as error:
                    position = error.position
                self.assertIn(position, starts)
                good = starts.index(position)
                self.assertTrue(can_be_completed(row[:good], endings, known), text)
                if good < size:
                    self.assertFalse(can_be_completed(row[:good + 1], endings, known), text)


def can_be_completed(tokens, endings, known):
    """Return whether the tokens with one of the endings are the text of a formula."""
    if tokens not in known:
        known[tokens] = any(is_formula(" ".join([*tokens, end])) for end in endings)
    return known[tokens]


def is_formula(text):
    try:
        parse_formula(text)
        return True
    except InvalidText:
        return False


def conjunction(parts):
    """Return the text of a conjunction: with n parts it has 2 * n - 1 nodes."""
    text = parts[0]
    for part in parts[1:]:
        text = f"({part} and {text})"
    return text


class Limits(Errors):
    def test_characters(self):
        self.assertEqual(parse_formula("a(x)" + " " * 296), A_X)
        self.assertEqual(parse_formula("a(" + " " * 296 + "x)"), A_X)
        self.check_too_large("a(x)" + " " * 297, 300)
        self.check_too_large("a(" + " " * 297 + "x)", 300)

    def test_characters_come_before_all_other_errors(self):
        for sign in (".", ")", "(", " ", "a", "not "):
            self.check_too_large((sign * 301)[:301], 300)
        self.check_invalid("." * 300, 0)
        self.check_invalid(" " * 300, 300)
        self.check_invalid("a" * 300, 0)

    def test_nodes(self):
        text = conjunction(["{a}"] * 20)
        self.assertEqual(formula_size(parse_formula(text)), 39)
        self.assertEqual(formula_size(parse_formula("not" + text)), 40)
        self.check_too_large("not not" + text, 40)
        self.check_too_large(conjunction(["{a}"] * 21), 40)
        self.assertEqual(formula_size(parse_formula("not " * 39 + "a(x)")), 40)
        self.check_too_large("not " * 40 + "a(x)", 40)
        self.check_too_large("not " * 74 + "a(x)", 40)

    def test_all_nodes_count(self):
        text = conjunction(["some x a(x)", "x in X", "x<y", "x=y", "{a}", "x next y", "not{a}"])
        self.assertEqual(formula_size(parse_formula(text)), 15)
        self.assertEqual(formula_size(parse_formula("not " * 25 + text)), 40)
        self.check_too_large("not " * 26 + text, 40)

    def test_quantifiers(self):
        for kinds in itertools.product(("some x ", "all y ", "some X ", "all Z "), repeat=3):
            self.assertEqual(nesting(parse_formula("".join(kinds) + "a(x)")), 3)
            for more in ("some x ", "all Y "):
                self.check_too_large(more + "".join(kinds) + "a(x)", 3)
        self.check_too_large("some x not all y not some z not some X not a(x)", 3)
        self.check_too_large("(a(x) and some x (a(x) or some x (all x some x a(x) or a(x))))", 3)

    def test_quantifiers_side_by_side_are_not_nested(self):
        text = conjunction(["some x some y some z a(x)"] * 4)
        self.assertEqual(nesting(parse_formula(text)), 3)
        self.check_too_large("some x" + text, 3)
        self.check_too_large(conjunction(["a(x)", "some x some y some z some X a(x)"]), 3)

    def test_nodes_come_before_quantifiers(self):
        four = "some x " * 4
        self.check_too_large(four + "not " * 36 + "a(x)", 40)
        self.check_too_large(four + "not " * 35 + "a(x)", 3)

    def test_limits_come_behind_the_other_errors(self):
        self.check_invalid("not " * 40 + "a(x) )", 165)
        self.check_invalid("not " * 40 + "a(x", 163)
        self.check_invalid("not " * 40 + "a(x.", 163)
        self.check_invalid("some x " * 4 + "a(x))", 32)
        self.check_invalid("some x " * 4, 28)
        self.check_invalid("some x " * 40, 280)

    def test_all_errors_are_scatter_errors(self):
        for text in ("d", "", ".", " " * 301, "not " * 40 + "a(x)", "some x " * 4 + "a(x)"):
            self.assertRaises(ScatterError, parse_formula, text)


if __name__ == "__main__":
    unittest.main()
