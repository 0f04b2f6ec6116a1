"""scatterwords/tables.py: what formulas mean, least tables, and what tables do."""

import copy
import unittest

from helpers import A, B, C, EMPTY, MOST, join, left, nested, right, times
from plain import (Maker, all_letters, count_of_different_values, is_true, is_true_in_endless,
                   values_as_found)
from scatterwords.errors import FreeVariables, InvalidValue, UnknownName
from scatterwords.formulas import free_variables, nesting
from scatterwords.formulatext import parse_formula
from scatterwords.tables import Table, compiled, example, parting, within
from scatterwords.words import length, letter_count, repeated
from scatterwords.wordtext import parse_word

SOME_A = "some x a(x)"
NO_PLACE = "all x not x = x"
FIRST_A = "some x (a(x) and not some y y < x)"
LAST = "some x all y (y < x or y = x)"
EXAMPLE = "all x (b(x) or some y x next y)"
WELL = "all X (not some x x in X or some x (x in X and all y (not y in X or (x = y or x < y))))"
DENSE = "some x some y (x < y and not some z (x < z and z < y))"
EVEN = ("some X (all x all y (not x next y or ((x in X and not y in X) or (not x in X and "
        "y in X))) and all x ((x in X or some y y < x) and (not x in X or some y x < y)))")
FACTOR = "some x some y (x next y and (a(x) and b(y)))"
THREE = "some x some y some z (x < y and (y < z and (a(x) and (b(y) and c(z)))))"
AGAIN = "some x (a(x) and some x b(x))"
AGAIN_SET = "some X (all x x in X and some X all x (x in X or b(x)))"
SUBSET = "some X all x ((x in X or b(x)) and (not x in X or some y (x next y and c(y))))"
AFTER = "all x (not a(x) or some y (x < y and (b(y) and all z (not (x < z and z < y) or c(z)))))"
TEXTS = (SOME_A, NO_PLACE, FIRST_A, LAST, EXAMPLE, WELL, DENSE, EVEN, FACTOR, THREE, AGAIN,
         AGAIN_SET, SUBSET, AFTER)

# For each formula: the letters, copies to the right, copies to the left, what is accepted, and
# the rows of products, all worked out by hand.
WHOLE = (
    ("all x x = x", (0, 0, 0), (0,), (0,), (True,), ((0,),)),
    ("some x x < x", (0, 0, 0), (0,), (0,), (False,), ((0,),)),
    # 1 is all words with an a.
    (SOME_A, (1, 0, 0), (0, 1), (0, 1), (False, True), ((0, 1), (1, 1))),
    # 1 is all words with a place.
    (NO_PLACE, (1, 1, 1), (0, 1), (0, 1), (True, False), ((0, 1), (1, 1))),
    # 1 begins with a, 2 with b or c or at no place.
    (FIRST_A, (1, 2, 2), (0, 1, 2), (0, 2, 2), (False, True, False),
     ((0, 1, 2), (1, 1, 1), (2, 2, 2))),
    # 1 has a last place, 2 has none.
    (LAST, (1, 1, 1), (0, 2, 2), (0, 1, 2), (False, True, False),
     ((0, 1, 2), (1, 1, 2), (2, 1, 2))),
    # 1 is well-ordered, 2 is not.
    (WELL, (1, 1, 1), (0, 1, 2), (0, 2, 2), (True, True, False),
     ((0, 1, 2), (1, 1, 2), (2, 2, 2))),
    # 1 is of odd length, 2 is endless, 3 is of even length.
    (EVEN, (1, 1, 1), (0, 2, 2, 2), (0, 2, 2, 2), (True, False, True, True),
     ((0, 1, 2, 3), (1, 3, 2, 1), (2, 2, 2, 2), (3, 1, 2, 3))),
    # What is not b needs a next place: it lacks at the end in 1 and 3, somewhere else in 5.
    # 3 and 4 have no first place.
    (EXAMPLE, (1, 2, 1), (0, 2, 2, 5, 4, 5), (0, 3, 4, 5, 4, 5),
     (True, False, True, False, True, False),
     ((0, 1, 2, 3, 4, 5), (1, 1, 2, 5, 5, 5), (2, 1, 2, 1, 2, 5), (3, 3, 4, 5, 5, 5),
      (4, 3, 4, 3, 4, 5), (5, 5, 5, 5, 5, 5))),
    # No two places side by side: 1 is one place, 2 has two neighbours or will have them.
    ("not some x some y x next y", (1, 1, 1), (0, 2, 2), (0, 2, 2), (True, True, False),
     ((0, 1, 2), (1, 2, 2), (2, 2, 2))),
)


def table_of(text):
    return compiled(parse_formula(text))


def accepted(text, word_text):
    return parse_word(word_text) in table_of(text)


def rows_of(table):
    """Return what WHOLE has of a table."""
    values = range(table.size)
    return (tuple(table.letter(sign) for sign in "abc"),
            tuple(table.right(value) for value in values),
            tuple(table.left(value) for value in values),
            tuple(table.accepts(value) for value in values),
            tuple(tuple(table.product(one, other) for other in values) for one in values))


def some_tables():
    """Return many tables, those of TEXTS first."""
    maker = Maker(7)
    return [*[table_of(text) for text in TEXTS], *[compiled(maker.sentence()) for _ in range(60)]]


class Compiled(unittest.TestCase):
    """[6]: what formulas mean."""

    def test_the_example_of_the_document(self):
        table = table_of("all x (b(x) or some y x next y)")
        self.assertEqual([parse_word("a>") in table, parse_word("aba") in table], [True, False])

    def test_finite_words_by_a_plain_reading(self):
        for text in TEXTS:
            formula = parse_formula(text)
            table = compiled(formula)
            for letters in all_letters(4):
                with self.subTest(text=text, letters=letters):
                    self.assertIs(parse_word(letters) in table, is_true(formula, letters))

    def test_many_formulas_by_a_plain_reading(self):
        maker = Maker(1)
        words = all_letters(3)
        for _ in range(150):
            formula = maker.sentence()
            table = compiled(formula)
            for letters in maker.random.sample(words, 12):
                with self.subTest(formula=formula, letters=letters):
                    self.assertIs(parse_word(letters) in table, is_true(formula, letters))

    def test_endless_words_by_their_first_copies(self):
        maker = Maker(2)
        words = ("a>", "b<", "(ab)>", "(ab)<", "a>b", "a>b<", "ba<", "a(bc)>", "(a>)>", "(ab>)<",
                 "(a<b)>", "(ba<)<", "a^3b<", "(a>)^2b", "(ab<)^2", "c(ab)>c<")
        tried = 0
        while tried < 300:
            formula = maker.sentence()
            if any(sign in str(formula) for sign in "XYZ") or nesting(formula) < 2:
                continue
            table = compiled(formula)
            for text in maker.random.sample(words, 4):
                word = parse_word(text)
                tried += 1
                with self.subTest(formula=formula, word=text):
                    self.assertIs(word in table, is_true_in_endless(formula, word, (3, 5, 7)))

    def test_each_kind_of_formula(self):
        for text, yes, no in (
                ("some x a(x)", "ba>", "(bc)>"),
                ("some x some y x < y", "aa", "a"),
                ("some x some y x next y", "a<a", "(b>a)^0c"),
                ("all x all y x = y", "c", "cc"),
                ("not some x some y not x = y", "", "a>"),
                ("some X some x x in X", "a", ""),
                ("all X (some x x in X or some x not x in X)", "a", "a^0"),
                ("all x all X x in X", "", "b"),
                ("(some x a(x) and some x b(x))", "b<a", "bc"),
                ("(some x a(x) or some x b(x))", "cb", "c>"),
                ("some x all y (x < y or x = y)", "ab<", "(ab)<"),
                ("all x x = x", "a>", None)):
            self.assertTrue(accepted(text, yes), text)
            if no is not None:
                self.assertFalse(accepted(text, no), text)

    def test_next_across_endless_copies(self):
        # The last a of endless copies has no next place if what follows has no first one.
        text = "some x some y ((a(x) and b(y)) and x next y)"
        for word, answer in (("ab", True), ("a>b", False), ("ab<", False), ("a<b", True),
                             ("ab>", True), ("a<b>", True), ("a<b<", False), ("(ab)>", True),
                             ("a>c<b", False), ("(b<a)>", False), ("(ba>)>", False),
                             ("(ba<)<", True), ("(b>a<)>", True), ("ac^0b", True)):
            self.assertIs(accepted(text, word), answer, word)

    def test_variables_chosen_again_within(self):
        self.assertTrue(accepted(AGAIN, "ab"))
        self.assertTrue(accepted(AGAIN, "ba"))
        self.assertFalse(accepted(AGAIN, "aa"))
        self.assertTrue(accepted("some x (a(x) and some x (b(x) and some x c(x)))", "cab"))
        self.assertFalse(accepted("some X (some x x in X and all X some x x in X)", "a"))
        self.assertTrue(accepted("some X (some x x in X and some X all x not x in X)", "a"))
        self.assertTrue(accepted(AGAIN_SET, ""))

    def test_sets_without_places_and_places_in_no_word(self):
        self.assertTrue(accepted("some X all x x in X", ""))
        self.assertTrue(accepted("all X all x x in X", ""))
        self.assertFalse(accepted("some x some X x = x", ""))
        self.assertTrue(accepted("all x some X x < x", ""))
        # A choice that is not used still asks for a place, but not for a set.
        self.assertFalse(accepted("some y some x x = x", "a^0"))
        self.assertTrue(accepted("some y some x x = x", "a"))
        self.assertTrue(accepted("some X all x x = x", ""))
        self.assertTrue(accepted("all y some x b(x)", ""))
        self.assertFalse(accepted("all y some x b(x)", "a"))

    def test_endless_sets(self):
        # The set of all places without a last one.
        text = ("some X (some x x in X and all x (not x in X or (a(x) and some y (x < y and "
                "y in X))))")
        for word, answer in (("a>", True), ("a<", False), ("(ab)>", True), ("(ab)<", False),
                             ("(a<b)>", True), ("a>b<", True), ("(ba)^1000", False), ("b>", False),
                             ("(b>a)>", True), ("(b>a)<", False), ("((ba>)^2)<", True)):
            self.assertIs(accepted(text, word), answer, word)

    def test_endless_sets_that_do_not_repeat_with_the_copies(self):
        # The set has all b and no two places side by side.
        text = ("some X (all x all y (not x next y or (not x in X or not y in X)) and "
                "all x (not b(x) or x in X))")
        for word, answer in (("b>", False), ("(ab)>", True), ("(abcbb)<", False), ("(ba)<", True),
                             ("(ab)^5b", False), ("(ab)>b", True), ("b<b", False)):
            self.assertIs(accepted(text, word), answer, word)
        # Every other place is in the set, also where a copy has an odd number of places.
        even = table_of(EVEN)
        for word, answer in (("a>", True), ("a<", True), ("(abc)>", True), (f"a^{MOST}", True),
                             (f"a^{MOST - 1}", False), ("a>b", True), ("(a>)^3", True),
                             (f"(abc)^{MOST}b", False), ("(a<)>", True), ("a^0", True)):
            self.assertIs(parse_word(word) in even, answer, word)

    def test_endless_copies_within_endless_copies(self):
        for text, word, answer in (
                (LAST, "(a<)<", True), (LAST, "(a>)<", False), (LAST, "(a<)>", False),
                (WELL, "(a>)>", True), (WELL, "((a>)>)^7", True), (WELL, "((a>)<)>", False),
                (WELL, "(a<)>", False), (FIRST_A, "(ab>)>", True), (FIRST_A, "((ab>)<)>", False),
                (EXAMPLE, "((a>)>)>", True), (EXAMPLE, "((ba>)<)<", True),
                (EXAMPLE, "(a>a<)>", True),
                (EXAMPLE, "(a<a<)>", False)):
            self.assertIs(accepted(text, word), answer, (text, word))

    def test_great_numbers_and_20_levels(self):
        word = A
        for _ in range(19):
            word = times(word, MOST)
        self.assertIn(word, table_of(EVEN))
        self.assertNotIn(word, table_of(FACTOR))
        odd = B
        for _ in range(19):
            odd = times(odd, MOST - 1)
        self.assertNotIn(odd, table_of(EVEN))
        self.assertIn(nested(A, 19), table_of(WELL))
        self.assertNotIn(nested(A, 19, "left"), table_of(WELL))

    def test_40_nodes(self):
        text = "a(x)"
        for sign in "bcabcabcab":
            text = f"({text} or not {sign}(x))"
        formula = parse_formula(f"some x not not not not not {text}")
        self.assertEqual(compiled(formula).size, 1)
        parts = [f"some x some y (x next y and ({one}(x) and {other}(y)))"
                 for one, other in ("ab", "bc", "ca", "aa", "bb")]
        table = table_of(f"(({parts[0]} and {parts[1]}) and ({parts[2]} or {parts[3]}))")
        self.assertIn(parse_word("(abca)>"), table)
        self.assertNotIn(parse_word("(abcb)>"), table)

    def test_formulas_that_ask_for_many_values(self):
        text = ("some x all z (not all y ((((((a(y) or not y < z) and ((y < x or not z next x) or "
                "a(z))) and not b(x)) or (c(y) or x next z)) or x next y) and (not y next x or "
                "b(z))) or (all z not (a(z) and x < z) and (x next z or all y x < z)))")
        formula = parse_formula(text)
        table = compiled(formula)
        self.assertEqual(count_of_different_values(table), table.size)
        for letters in all_letters(3)[::2]:
            self.assertIs(parse_word(letters) in table, is_true(formula, letters))
        for word in ("(ab)>", "a<", "(ab)<c", "b>a<"):
            word = parse_word(word)
            self.assertIs(word in table, is_true_in_endless(formula, word, (3, 5, 7)))

    def test_free_variables_come_first(self):
        for text, variables in (("a(x)", ["x"]), ("(x in X and {oak})", ["X", "x"]),
                                ("some x (x < y or (z in Z and {oak}))", ["Z", "y", "z"]),
                                ("some X x in X", ["x"])):
            with self.assertRaises(FreeVariables) as caught:
                table_of(text)
            self.assertEqual(caught.exception.variables, variables)
            self.assertEqual(caught.exception.code, "FreeVariables")

    def test_unknown_name(self):
        for text, name in (("{oak}", "oak"), ("({oak} and {elm})", "elm"),
                           ("some x (a(x) or not {fir})", "fir"), ("all X {oak}", "oak")):
            with self.assertRaises(UnknownName) as caught:
                table_of(text)
            self.assertEqual(caught.exception.name, name)

    def test_by_name(self):
        self.assertEqual(compiled(formula=parse_formula(SOME_A)).size, 2)


class Values(unittest.TestCase):
    """[8]: the values of least tables and their numbers."""

    def test_whole_tables(self):
        for text, *rows in WHOLE:
            with self.subTest(text):
                self.assertEqual(rows_of(table_of(text)), tuple(rows))

    def test_the_order_of_the_values(self):
        for table in some_tables():
            self.assertEqual(values_as_found(table), list(range(table.size)))

    def test_no_two_values_are_alike(self):
        for table in some_tables():
            self.assertEqual(count_of_different_values(table), table.size)

    def test_the_laws_of_products_and_copies(self):
        for table in some_tables():
            values = range(table.size)
            for one in values:
                self.assertEqual(table.product(0, one), one)
                self.assertEqual(table.product(one, 0), one)
                self.assertEqual(table.product(one, table.right(one)), table.right(one))
                self.assertEqual(table.product(table.left(one), one), table.left(one))
                for many in (1, 2, 3, 6, MOST):
                    self.assertEqual(table.right(table.power(one, many)), table.right(one))
                    self.assertEqual(table.left(table.power(one, many)), table.left(one))
                for other in values:
                    both, turned = table.product(one, other), table.product(other, one)
                    self.assertEqual(table.right(both), table.product(one, table.right(turned)))
                    self.assertEqual(table.left(both), table.product(table.left(turned), other))

    def test_equal_tables_from_formulas_alike_in_meaning(self):
        for one, other in (
                (SOME_A, "not all x not a(x)"),
                (SOME_A, "some X (some x x in X and all x (not x in X or a(x)))"),
                (SOME_A, "some y some z (a(y) and y = z)"),
                ("all x (a(x) or b(x))", "not some z c(z)"),
                ("some x some y (x < y and not x = y)", "some x some y x < y"),
                (LAST, "some x not some y x < y"),
                (FIRST_A, "some z (a(z) and all x (z < x or x = z))"),
                ("some x some y x next y", "some x some y (x < y and not some z (x < z and z < y))"),
                ("all X all x (not x in X or x in X)", "all x (a(x) or (b(x) or c(x)))"),
                ("some X all x (x in X or a(x))", "all x x = x")):
            self.assertEqual(table_of(one), table_of(other), one)

    def test_b_is_as_the_empty_word(self):
        table = table_of(SOME_A)
        self.assertEqual([table.value(word) for word in (EMPTY, B, right(B), join(C, B), A)],
                         [0, 0, 0, 0, 1])


class Methods(unittest.TestCase):
    def test_size_and_len(self):
        for text, letters, rights, *_ in WHOLE:
            table = table_of(text)
            self.assertEqual(table.size, len(rights))
            self.assertEqual(len(table), len(rights))

    def test_power(self):
        table = table_of(EVEN)
        self.assertEqual([table.power(1, many) for many in (0, 1, 2, 3, 4)], [0, 1, 3, 1, 3])
        self.assertEqual(table.power(1, MOST), 3)
        self.assertEqual(table.power(1, MOST - 1), 1)
        self.assertEqual(table.power(2, 0), 0)
        self.assertEqual(table.power(0, MOST), 0)
        for table in some_tables():
            for value in range(table.size):
                product = 0
                for many in range(9):
                    self.assertEqual(table.power(value, many), product)
                    product = table.product(product, value)

    def test_value_follows_from_the_parts(self):
        maker = Maker(3)
        for table in some_tables()[:30]:
            for _ in range(10):
                one, other = maker.word(4), maker.word(4)
                self.assertEqual(table.value(join(one, other)),
                                 table.product(table.value(one), table.value(other)))
                self.assertEqual(table.value(right(one)), table.right(table.value(one)))
                self.assertEqual(table.value(left(one)), table.left(table.value(one)))
                self.assertEqual(table.value(times(one, 7)), table.power(table.value(one), 7))
                self.assertIs(one in table, table.accepts(table.value(one)))

    def test_different_trees_of_one_word(self):
        for table in some_tables():
            for one, other in (("(ab)>", "a(ba)>"), ("(ab)<", "(ba)<b"), ("a^6", "(aa)^3"),
                               ("a>", "(aa)>"), ("(a^3)<", "a<"), ("((ab)^2)>", "(ab)>"),
                               ("()", "(a^0)>"), ("a(bc)", "(ab)c()")):
                self.assertEqual(table.value(parse_word(one)), table.value(parse_word(other)))

    def test_witness_of_every_value(self):
        for table in some_tables():
            for value in range(table.size):
                word = table.witness(value)
                self.assertEqual(table.value(word), value)
                self.assertIs(word in table, table.accepts(value))
                length(word)
        self.assertEqual(length(table_of(EVEN).witness(0)), 0)

    def test_invalid_values(self):
        for text in (SOME_A, EXAMPLE, "all x x = x"):
            table = table_of(text)
            for number in (-1, table.size, table.size + 1, MOST, -MOST):
                for act in (table.right, table.left, table.accepts, table.witness,
                            lambda value: table.power(value, 0),
                            lambda value: table.power(value, 3),
                            lambda value: table.product(value, 0),
                            lambda value: table.product(0, value),
                            lambda value: table.product(value, -7)):
                    with self.assertRaises(InvalidValue) as caught:
                        act(number)
                    self.assertEqual(caught.exception.number, number)

    def test_invalid_values_one_first(self):
        table = table_of(SOME_A)
        for one, other, number in ((-1, 2, -1), (2, -1, 2), (5, 6, 5), (1, 2, 2), (0, -1, -1)):
            with self.assertRaises(InvalidValue) as caught:
                table.product(one, other)
            self.assertEqual(caught.exception.number, number)

    def test_constant(self):
        for answer in (True, False):
            table = Table.constant(answer)
            self.assertEqual(rows_of(table), ((0, 0, 0), (0,), (0,), (answer,), ((0,),)))
            self.assertIs(parse_word("(ab)>") in table, answer)
            self.assertEqual(table.value(left(A)), 0)
        self.assertEqual(Table.constant(True), table_of("all x x = x"))
        self.assertEqual(Table.constant(False), Table.constant(True).opposite())
        self.assertNotEqual(Table.constant(False), Table.constant(True))

    def test_opposite_both_either_differing(self):
        maker = Maker(4)
        tables = some_tables()[:24]
        words = [maker.word(4) for _ in range(40)]
        for one, other in zip(tables, tables[1:]):
            for word in words:
                here, there = word in one, word in other
                self.assertIs(word in one.opposite(), not here)
                self.assertIs(word in one.both(other), here and there)
                self.assertIs(word in one.either(other), here or there)
                self.assertIs(word in one.differing(other), here != there)

    def test_they_are_least_tables_of_formulas(self):
        for one, other in (("some x a(x)", "some x b(x)"), (LAST, FIRST_A), (EVEN, SOME_A)):
            here, there = table_of(one), table_of(other)
            self.assertEqual(here.both(there), table_of(f"({one} and {other})"))
            self.assertEqual(here.either(there), table_of(f"({one} or {other})"))
            self.assertEqual(here.opposite(), table_of(f"not {one}"))
            self.assertEqual(here.differing(there),
                             table_of(f"({one} and not {other})").either(
                                 table_of(f"({other} and not {one})")))
            self.assertEqual(here.opposite().opposite(), here)
            self.assertEqual(here.both(here), here)
            self.assertEqual(here.either(here.opposite()), Table.constant(True))
            self.assertEqual(here.differing(here), Table.constant(False))
            self.assertEqual(rows_of(here.both(there)), rows_of(there.both(here)))

    def test_equality(self):
        table = table_of(SOME_A)
        self.assertTrue(table == table_of(SOME_A))
        self.assertFalse(table != table_of(SOME_A))
        self.assertTrue(table != table_of("some x b(x)"))
        for other in (2, "Table(2 values)", None, (), [], rows_of(table), Table, 0):
            self.assertFalse(table == other)
            self.assertTrue(table != other)

    def test_in(self):
        table = table_of(SOME_A)
        self.assertIs(A in table, True)
        self.assertIs(B in table, False)
        self.assertTrue(B not in table)
        self.assertIs(table.accepts(1), True)
        self.assertIs(table.accepts(0), False)

    def test_repr(self):
        self.assertEqual(repr(table_of(SOME_A)), "Table(2 values)")
        self.assertEqual(repr(Table.constant(True)), "Table(1 values)")
        self.assertEqual(repr(table_of(EXAMPLE)), "Table(6 values)")

    def test_by_name(self):
        table = table_of(EVEN)
        self.assertEqual(Table.constant(answer=True).size, 1)
        self.assertEqual(table.letter(sign="b"), 1)
        self.assertEqual(table.product(other=2, one=1), 2)
        self.assertEqual(table.power(many=2, value=1), 3)
        self.assertEqual(table.right(value=1), 2)
        self.assertEqual(table.left(value=1), 2)
        self.assertIs(table.accepts(value=1), False)
        self.assertEqual(table.value(word=A), 1)
        self.assertEqual(table.value(table.witness(value=1)), 1)
        self.assertEqual(table.both(other=table), table.either(other=table))
        self.assertEqual(table.differing(other=table).size, 1)


class Comparing(unittest.TestCase):
    """example, parting and within."""

    def test_example(self):
        for table in some_tables():
            word = example(table)
            if word is None:
                self.assertEqual(table, Table.constant(False))
            else:
                self.assertIn(word, table)
        self.assertIsNone(example(Table.constant(False)))
        self.assertIsNone(example(table_of("some x (a(x) and b(x))")))
        self.assertIsNotNone(example(Table.constant(True)))
        self.assertIsNone(length(example(table_of("(some x x = x and all x some y x < y)"))))

    def test_parting(self):
        tables = some_tables()[:30]
        for one in tables:
            for other in tables:
                word = parting(one, other)
                if one == other:
                    self.assertIsNone(word)
                else:
                    self.assertNotEqual(word in one, word in other)
        self.assertIsNone(parting(Table.constant(True), Table.constant(True)))
        self.assertIsNotNone(parting(Table.constant(True), Table.constant(False)))
        self.assertNotEqual(letter_count(parting(table_of(SOME_A), Table.constant(False)), "a"), 0)

    def test_parting_where_only_endless_words_differ(self):
        word = parting(table_of(WELL), Table.constant(True))
        self.assertIsNone(length(word))
        self.assertNotIn(word, table_of(WELL))

    def test_within(self):
        a, both = table_of(SOME_A), table_of(AGAIN)
        self.assertIs(within(both, a), True)
        self.assertIs(within(a, both), False)
        self.assertIs(within(a, a), True)
        self.assertIs(within(Table.constant(False), a), True)
        self.assertIs(within(a, Table.constant(True)), True)
        self.assertIs(within(Table.constant(True), a), False)
        self.assertIs(within(a, Table.constant(False)), False)
        tables = some_tables()[:24]
        for one in tables:
            for other in tables:
                left_out = one.both(other.opposite())
                self.assertIs(within(one, other), left_out == Table.constant(False))

    def test_by_name(self):
        table = table_of(SOME_A)
        self.assertIn(example(table=table), table)
        self.assertIsNone(parting(other=table, one=table))
        self.assertTrue(within(other=table, one=table))


class General(unittest.TestCase):
    """[2]: arguments and tables are not changed, equal calls return equal results."""

    def test_equal_calls(self):
        maker = Maker(5)
        for _ in range(20):
            formula = maker.sentence()
            same = copy.deepcopy(formula)
            table = compiled(formula)
            before = rows_of(table)
            other = table_of(SOME_A)
            self.assertEqual(rows_of(compiled(same)), before)
            self.assertEqual(example(table), example(compiled(same)))
            self.assertEqual(parting(table, other), parting(compiled(same), other))
            table.opposite(), table.both(other), table.differing(other), within(table, other)
            self.assertEqual([table.witness(value) for value in range(table.size)],
                             [compiled(same).witness(value) for value in range(table.size)])
            self.assertEqual(rows_of(table), before)
            self.assertEqual(formula, same)

    def test_the_list_of_free_variables_is_new(self):
        formula = parse_formula("x in X")
        found = []
        for _ in range(2):
            with self.assertRaises(FreeVariables) as caught:
                compiled(formula)
            found.append(caught.exception.variables)
            caught.exception.variables.append("z")
        self.assertEqual(found, [["X", "x", "z"], ["X", "x", "z"]])
        self.assertEqual(free_variables(formula), ["X", "x"])

    def test_witnesses_are_words_for_all_functions(self):
        for table in some_tables()[:20]:
            for value in range(table.size):
                word = table.witness(value)
                self.assertIn(letter_count(repeated(word, 2), "a"),
                              (None, 2 * (letter_count(word, "a") or 0)))


if __name__ == "__main__":
    unittest.main()
