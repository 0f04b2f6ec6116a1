"""scatterwords/steps.py: steps, what they make of words, and what they make of tables."""

import copy
import unittest

from helpers import A, B, C, EMPTY, MOST, join, left, nested, right, some_places, times
from plain import (BEHIND, FIRST, LAST, NEAR_END, ODD, ODD_FROM_RIGHT, QUERIES, SECOND,
                   SENTENCES, Maker, all_letters, count_of_different_values, is_true,
                   values_as_found)
from scatterwords import steps
from scatterwords.errors import (FreeVariables, InvalidAddress, InvalidLetters, TooLarge,
                                 UnknownName)
from scatterwords.formulatext import parse_formula
from scatterwords.places import cut, first_place, letter_at, walk
from scatterwords.queries import Query
from scatterwords.steps import Step, pulled_through, run_all
from scatterwords.tables import Table, compiled, within
from scatterwords.words import depth, is_empty, length, letter_count, mirror, node_count
from scatterwords.wordtext import format_word, parse_word

BEHIND_A = BEHIND.format("a")
TRUE = "x = x"
GOOD = ("a(x)", "b")
WORDS = ("", "a", "abc", "cbab", "(ab)^5", "b^9c", "a>", "c<", "(ab)>", "(bc)<", "c(ab)>(cb)<a",
         "(a>)>", "((ab)<c)<", "(b>a)<", "(ca<)>", f"(cba)^{MOST}", f"((ab)^{MOST - 1}c)>")


def step_of(*rules):
    """Return the step of pairs of texts."""
    return Step(*[(parse_formula(text), letters) for text, letters in rules])


def table_of(text):
    return compiled(parse_formula(text))


def result(step, word):
    """Return the letters of what a step makes of the text of a word without endless copies."""
    found = step.run(parse_word(word))
    return "".join(letter_at(found, address) for address in walk(found, many=100))


def some_tables():
    return [table_of(text) for text in SENTENCES]


class Making(unittest.TestCase):
    def test_constants(self):
        self.assertEqual((steps.MAX_RULES, steps.MAX_LETTERS), (4, 3))

    def test_from_none_to_four_rules(self):
        for many in range(5):
            self.assertEqual(len(step_of(*[GOOD] * many)), many)

    def test_five_rules(self):
        with self.assertRaises(TooLarge) as caught:
            step_of(*[GOOD] * 5)
        self.assertEqual(caught.exception.limit, 4)
        with self.assertRaises(TooLarge):
            step_of(("y = x", "abcd"), *[("{oak}", "x")] * 5)

    def test_letters(self):
        for letters in ("", "a", "ccc", "abc", "ba"):
            self.assertEqual(len(step_of(("a(x)", letters))), 1)
        for letters in ("abca", "d", "A", "ab ", "a\nb", "aBc", "()", "abcabc", " "):
            with self.assertRaises(InvalidLetters) as caught:
                step_of(("a(x)", letters))
            self.assertEqual(caught.exception.position, 0)

    def test_letters_with_the_index_of_the_rule(self):
        for position in range(4):
            rules = [GOOD] * 4
            rules[position] = ("a(x)", "abd")
            with self.assertRaises(InvalidLetters) as caught:
                step_of(*rules)
            self.assertEqual(caught.exception.position, position)
        with self.assertRaises(InvalidLetters) as caught:
            step_of(GOOD, ("a(x)", "x"), ("b(x)", "aaaa"))
        self.assertEqual(caught.exception.position, 1)

    def test_errors_of_the_formula(self):
        with self.assertRaises(FreeVariables) as caught:
            step_of(GOOD, ("(y < x and x in X)", "a"))
        self.assertEqual(caught.exception.variables, ["X", "y"])
        with self.assertRaises(UnknownName) as caught:
            step_of(("({oak} or {elm})", "a"))
        self.assertEqual(caught.exception.name, "elm")

    def test_the_errors_of_the_first_wrong_rule(self):
        for rules, error in (
                ([("y = x", "abcd")], FreeVariables),
                ([("({oak} and y = x)", "abcd")], FreeVariables),
                ([("{oak}", "abcd")], UnknownName),
                ([("a(x)", "abcd"), ("y = x", "a")], InvalidLetters),
                ([GOOD, ("a(x)", "abcd"), ("{oak}", "a")], InvalidLetters),
                ([GOOD, ("{oak}", "a"), ("y = x", "abcd")], UnknownName),
                ([GOOD, GOOD, ("y = x", "a"), ("a(x)", "abcd")], FreeVariables)):
            with self.assertRaises(error):
                step_of(*rules)

    def test_len_and_repr(self):
        for many in range(5):
            step = step_of(*[GOOD] * many)
            self.assertEqual(len(step), many)
            self.assertEqual(repr(step), f"Step({many} rules)")


class Run(unittest.TestCase):
    def test_the_example_of_the_document(self):
        step = Step((parse_formula("not some y y < x"), ""), (parse_formula("a(x)"), "bb"))
        self.assertEqual(letter_count(step.run(parse_word("a^5c")), "b"), 8)
        self.assertEqual(result(step, "a^5c"), "bbbbbbbbc")

    def test_finite_words(self):
        for rules, word, letters in (
                ([], "abc", "abc"), ([GOOD], "abca", "bbcb"), ([("a(x)", "")], "abca", "bc"),
                ([("a(x)", "")], "a", ""), ([("a(x)", "abc")], "ab", "abcb"), ([GOOD], "", ""),
                ([GOOD, ("a(x)", "c")], "ab", "bb"), ([("b(x)", "a"), GOOD], "ab", "ba"),
                ([(TRUE, ""), GOOD], "ab", ""), ([("x < x", ""), GOOD], "ab", "bb"),
                ([(FIRST, "cc"), (LAST, "")], "ab^3a", "ccbbb"),
                ([(FIRST, "c"), (LAST, "")], "a", "c"), ([(BEHIND_A, "a")], "abbb", "aabb"),
                ([(BEHIND_A, "")], "a^4b", "a"), ([("some x b(x)", "c")], "ab", "cc"),
                ([("some x b(x)", "c")], "ac", "ac"),
                ([(FIRST, "a"), (LAST, "b"), ("a(x)", "ca"), ("b(x)", "")], "babca", "acacb"),
                ([("a(x)", "bab"), ("b(x)", "aba")], "abab", "babababababa")):
            self.assertEqual(result(step_of(*rules), word), letters, (rules, word))

    def test_all_places_at_once(self):
        # Each b behind an a becomes an a; those behind it are looked at before the step.
        step = step_of((f"(b(x) and {BEHIND_A})", "a"))
        self.assertEqual(result(step, "ab^5"), "aabbbb")
        self.assertEqual(format_word(step.run(step.run(parse_word("abb")))), "aaa")

    def test_by_the_letters_of_each_place(self):
        maker = Maker(21)
        for _ in range(60):
            rules = maker.rules()
            step = Step(*rules)
            for letters in maker.random.sample(all_letters(4), 5):
                expected = ""
                for at, sign in enumerate(letters):
                    texts = [text for formula, text in rules if is_true(formula, letters, {"x": at})]
                    expected += texts[0] if texts else sign
                self.assertEqual(result(step, letters), expected, (rules, letters))

    def test_endless_words_place_by_place(self):
        maker = Maker(22)
        for _ in range(100):
            step, word = Step(*maker.rules()), maker.word(4)
            expected = "".join(step.letters_at(word, address) for address in walk(word, many=12))
            found = step.run(word)
            self.assertEqual("".join(letter_at(found, address)
                                     for address in walk(found, many=len(expected))), expected)

    def test_endless_words_place_by_place_from_the_right(self):
        # Copies to the left have no first place, but they have one in the mirrored word.
        maker = Maker(31)
        for _ in range(100):
            step, word = Step(*maker.rules()), maker.word(4)
            expected = ""
            for address in walk(mirror(word), many=12):
                behind, letter, ahead = cut(mirror(word), address)
                expected += step.letters_between(mirror(ahead), letter, mirror(behind))[::-1]
            found = mirror(step.run(word))
            self.assertEqual("".join(letter_at(found, address)
                                     for address in walk(found, many=len(expected))), expected)

    def test_endless_copies(self):
        for rules, word, letter, total in (
                ([(FIRST, "ccc")], "a>", "c", 3), ([("not " + FIRST, "")], "a>", "a", 1),
                ([("a(x)", "")], "(ab)>", "a", 0), ([("a(x)", "")], "(ab)>", "b", None),
                ([("a(x)", "")], "a>", "a", 0), ([(LAST, "")], "a<", "a", None),
                ([(BEHIND_A, "c")], "a>b", "b", 1), ([(BEHIND_A, "c")], "a<b", "b", 0),
                ([("not some y y next x", "bb")], f"(a>)^{MOST}", "b", 2 * MOST),
                ([("not some y y next x", "bb"), (TRUE, "")], "(a>)^5c>", "b", 12)):
            found = step_of(*rules).run(parse_word(word))
            self.assertEqual(letter_count(found, letter), total, (rules, word))

    def test_great_numbers(self):
        found = step_of((FIRST, ""), ("a(x)", "bcb")).run(parse_word(f"(ab)^{MOST}"))
        self.assertEqual(letter_count(found, "b"), 3 * MOST - 2)
        self.assertEqual(letter_count(found, "c"), MOST - 1)
        word = A
        for _ in range(19):
            word = times(word, MOST)
        found = step_of((LAST, ""), ("a(x)", "abc")).run(word)
        self.assertEqual(length(found), 3 * (MOST ** 19 - 1))
        self.assertTrue(is_empty(step_of(("a(x)", "")).run(word)))

    def test_results_are_words_without_empty_parts(self):
        maker = Maker(23)
        for _ in range(60):
            step, word = Step(*maker.rules()), maker.word(5)
            found = step.run(word)
            self.check_tree(found, True)
            self.assertEqual(mirror(mirror(found)), found)
            self.assertEqual(found, step.run(word))

    def check_tree(self, word, is_whole):
        kind = word[0]
        self.assertTrue(is_whole or kind != "empty")
        if kind == "letter":
            self.assertIn(word, (A, B, C))
        elif kind == "join":
            self.assertGreaterEqual(len(word[1]), 2)
            for part in word[1]:
                self.check_tree(part, False)
        elif kind == "times":
            self.assertEqual(len(word), 3)
            self.assertTrue(2 <= word[2] <= MOST)
            self.check_tree(word[1], False)
        elif kind != "empty":
            self.assertIn(kind, ("right", "left"))
            self.assertEqual(len(word), 2)
            self.check_tree(word[1], False)

    def test_words_keep_small(self):
        step = step_of((BEHIND_A, "ab"), (LAST, ""), ("b(x)", "ca"), (FIRST, "bb"))
        word = parse_word(f"((ab)^{MOST}c(a>b)<)^{MOST}")
        for _ in range(5):
            word = step.run(word)
            self.assertLess(depth(word), 12)
            self.assertLess(node_count(word), 600)
        self.assertLess(node_count(step.run(nested(A, 19))), 1000)

    def test_a_step_without_rules(self):
        word = parse_word(f"(ab)^{MOST}c>(a<)>")
        found = Step().run(word)
        for table in some_tables():
            self.assertEqual(table.value(found), table.value(word))
        self.assertEqual(length(Step().run(parse_word("abc"))), 3)

    def test_run_all(self):
        one, other = step_of(("a(x)", "bb")), step_of(("b(x)", "ac"))
        word = parse_word("(ab)>")
        self.assertEqual(run_all(word), word)
        self.assertEqual(run_all(word, one), one.run(word))
        self.assertEqual(run_all(word, one, other), other.run(one.run(word)))
        self.assertEqual(run_all(word, other, one), one.run(other.run(word)))
        self.assertEqual(run_all(word, one, one, one, other), other.run(one.run(one.run(
            one.run(word)))))
        self.assertEqual(length(run_all(parse_word("a^3"), one, other, one)), 18)
        self.assertEqual(run_all(EMPTY), EMPTY)


class Letters(unittest.TestCase):
    def test_letters_at(self):
        step = step_of((FIRST, "abc"), (BEHIND_A, ""), ("b(x)", "cc"))
        word = parse_word(f"ab^{MOST}(cab)>")
        for address, letters in (((0,), "abc"), ((1, 0), ""), ((1, 1), "cc"), ((1, MOST - 1), "cc"),
                                 ((2, 0, 0), "c"), ((2, 0, 1), "a"), ((2, MOST, 2), "")):
            self.assertEqual(step.letters_at(word, address), letters)
        self.assertEqual(Step().letters_at(word, (1, 5)), "b")

    def test_invalid_address(self):
        step = step_of(GOOD)
        for word, address in ((EMPTY, ()), (A, (0,)), (join(A, B), (2,)), (right(A), (-1,)),
                              (right(A), (MOST + 1,)), (times(A, 3), (3,)), (join(A, B), ())):
            for each in (step, Step()):
                with self.assertRaises(InvalidAddress):
                    each.letters_at(word, address)

    def test_letters_between(self):
        step = step_of((BEHIND_A, "bc"), (LAST, ""))
        for ahead, letter, behind, letters in (
                ("a", "b", "c", "bc"), ("a", "b", "", "bc"), ("b", "a", "", ""), ("", "c", "b", "c"),
                ("a>", "b", "b<", "b"), ("a<", "a", "", "bc"), ("a>", "b", "", "")):
            self.assertEqual(step.letters_between(parse_word(ahead), letter, parse_word(behind)),
                             letters)

    def test_the_first_rule_that_holds(self):
        maker = Maker(24)
        for _ in range(60):
            rules, word = maker.rules(), maker.word(4)
            step = Step(*rules)
            queries = [Query(formula) for formula, _ in rules]
            for address, letter in some_places(word, 2)[:8]:
                texts = [text for query, (_, text) in zip(queries, rules)
                         if query.holds(word, address)]
                letters = texts[0] if texts else letter
                self.assertEqual(step.letters_at(word, address), letters)
                self.assertEqual(step.letters_between(*cut(word, address)), letters)


class PulledBack(unittest.TestCase):
    def test_by_acceptance(self):
        maker = Maker(25)
        tables = some_tables()
        for _ in range(60):
            step = Step(*maker.rules())
            table = maker.random.choice(tables)
            found = step.pulled_back(table)
            self.assertIsInstance(found, Table)
            for _ in range(20):
                word = maker.word(4)
                self.assertIs(word in found, step.run(word) in table)

    def test_what_changes_along_copies(self):
        tables = some_tables()
        words = [parse_word(text) for text in WORDS]
        for text in QUERIES:
            for letters in ("", "b", "ba"):
                step = step_of((text, letters))
                results = [step.run(word) for word in words]
                for table in tables:
                    found = step.pulled_back(table)
                    self.assertEqual([word in found for word in words],
                                     [result in table for result in results], (text, letters))

    def test_copies_to_the_left_in_their_order(self):
        ends_in_ba = table_of("some x some y ((x next y and not some z y < z) and (b(x) and a(y)))")
        for rules, word, answer in (
                ([(LAST, "a"), (NEAR_END, "b")], "c<", True),
                ([(LAST, "b"), (NEAR_END, "a")], "c<", False),
                ([(ODD_FROM_RIGHT, "a"), (TRUE, "b")], "c<", True),
                ([(ODD_FROM_RIGHT, "b"), (TRUE, "a")], "c<", False),
                ([(LAST, ""), (ODD_FROM_RIGHT, "b"), (TRUE, "a")], "c<", True)):
            step = step_of(*rules)
            self.assertIs(step.run(parse_word(word)) in ends_in_ba, answer)
            self.assertIs(parse_word(word) in step.pulled_back(ends_in_ba), answer)
        begins_with_ab = table_of("some x some y ((x next y and not some z z < x) and (a(x) and b(y)))")
        for rules, answer in (([(FIRST, "a"), (SECOND, "b")], True), ([(ODD, "a"), (TRUE, "b")], True),
                              ([(ODD, "b"), (TRUE, "a")], False)):
            self.assertIs(parse_word("c>") in step_of(*rules).pulled_back(begins_with_ab), answer)

    def test_pulled_through_by_acceptance(self):
        maker = Maker(26)
        for _ in range(25):
            some = [Step(*maker.rules()) for _ in range(maker.random.randint(0, 3))]
            table = compiled(maker.sentence())
            found = pulled_through(table, *some)
            for _ in range(15):
                word = maker.word(3)
                self.assertIs(word in found, run_all(word, *some) in table)

    def test_pulled_through_is_pulled_back_from_the_last_step_on(self):
        one, other = step_of(("a(x)", "bb")), step_of((BEHIND_A, ""))
        for table in some_tables():
            self.assertEqual(pulled_through(table), table)
            self.assertEqual(pulled_through(table, one), one.pulled_back(table))
            self.assertEqual(pulled_through(table, one, other),
                             one.pulled_back(other.pulled_back(table)))

    def test_known_tables(self):
        for rules, text, expected in (
                ([], "some x a(x)", "some x a(x)"),
                ([("b(x)", "a")], "some x a(x)", "(some x a(x) or some x b(x))"),
                ([("a(x)", "b")], "some x a(x)", "x < x"),
                ([("a(x)", "")], "some x x = x", "(some x b(x) or some x c(x))"),
                ([("a(x)", "b"), ("b(x)", "a")], "all x a(x)", "all x b(x)"),
                ([(FIRST, "")], "some x x = x", "some x some y x < y"),
                ([(TRUE, "")], "some x x = x", "x < x"),
                ([(TRUE, "ab")], "some x some y (x next y and (b(x) and a(y)))",
                 "some x some y x next y"),
                ([(TRUE, "ab")], "some x some y (x next y and (a(x) and b(y)))", "some x x = x")):
            formula = parse_formula(f"some x {expected}" if expected == "x < x" else expected)
            self.assertEqual(step_of(*rules).pulled_back(table_of(text)), compiled(formula))

    def test_constants_stay(self):
        step = step_of((BEHIND_A, "ab"), (FIRST, ""))
        for answer in (True, False):
            self.assertEqual(step.pulled_back(Table.constant(answer)), Table.constant(answer))

    def test_it_goes_along_with_what_tables_do(self):
        maker = Maker(27)
        tables = some_tables()
        for _ in range(12):
            step = Step(*maker.rules())
            one, other = maker.random.sample(tables, 2)
            here, there = step.pulled_back(one), step.pulled_back(other)
            self.assertEqual(step.pulled_back(one.opposite()), here.opposite())
            self.assertEqual(step.pulled_back(one.both(other)), here.both(there))
            self.assertTrue(within(here.both(there), step.pulled_back(one.either(other))))

    def test_least_tables(self):
        maker = Maker(28)
        for _ in range(20):
            table = Step(*maker.rules()).pulled_back(maker.random.choice(some_tables()))
            self.assertEqual(values_as_found(table), list(range(table.size)))
            self.assertEqual(count_of_different_values(table), table.size)
            for value in range(table.size):
                self.assertEqual(table.value(table.witness(value)), value)


class Difference(unittest.TestCase):
    def check(self, one, other, is_different):
        for here, there in ((one, other), (other, one)):
            found = here.difference(there)
            if not is_different:
                self.assertIsNone(found)
                continue
            self.assertIs(type(found), tuple)
            ahead, letter, behind = found
            self.assertIn(letter, "abc")
            self.assertNotEqual(here.letters_between(ahead, letter, behind),
                                there.letters_between(ahead, letter, behind))

    def test_alike(self):
        for one, other in (
                ([], []), ([], [("a(x)", "a")]), ([], [("x < x", "b")]),
                ([("a(x)", "a"), ("b(x)", "b")], [("c(x)", "c")]),
                ([GOOD], [GOOD, ("a(x)", "c")]), ([(FIRST, "a")], [("all y (x < y or x = y)", "a")]),
                ([("a(x)", ""), ("b(x)", "")], [("not c(x)", "")]),
                ([("some x x = x", "ab")], [(TRUE, "ab")]),
                ([("a(x)", "b"), ("b(x)", "b")], [("(a(x) or b(x))", "b")]),
                ([("all x a(x)", "a")], [])):
            self.check(step_of(*one), step_of(*other), False)

    def test_different(self):
        for one, other in (
                ([], [GOOD]), ([], [("a(x)", "")]), ([], [("a(x)", "aa")]),
                ([GOOD, ("a(x)", "c")], [("a(x)", "c"), GOOD]), ([(FIRST, "")], [(LAST, "")]),
                ([("some x c(x)", "a")], [("some x b(x)", "a")]),
                # They are different only in endless words.
                ([(FIRST, "c")], [("(not some y y next x and all y (y = x or (x < y or "
                                   "some z z next y)))", "c")]),
                ([("some y y next x", "b")], [("some y y < x", "b")]),
                ([("all x some y x < y", "")], [])):
            self.check(step_of(*one), step_of(*other), True)

    def test_the_place_is_just_where_they_differ(self):
        for text, many_ahead, many_behind in (
                (FIRST, 0, None), (LAST, None, 0), (SECOND, 1, None),
                (f"({NEAR_END} and not {LAST})", None, 1), (f"({FIRST} and {LAST})", 0, 0),
                (f"({SECOND} and {LAST})", 1, 0), (f"({FIRST} and not {LAST})", 0, None)):
            for one, other in ((step_of((text, "")), Step()), (Step(), step_of((text, "")))):
                ahead, letter, behind = one.difference(other)
                self.assertIn(letter, "abc")
                if many_ahead is not None:
                    self.assertEqual(length(ahead), many_ahead)
                if many_behind is not None:
                    self.assertEqual(length(behind), many_behind)

    def test_each_two_queries(self):
        steps_of_queries = [step_of((text, "ab")) for text in QUERIES]
        for one in steps_of_queries:
            for other in steps_of_queries:
                found = one.difference(other)
                if found is None:
                    self.assertIs(one, other)
                else:
                    self.assertNotEqual(one.letters_between(*found), other.letters_between(*found))

    def test_many(self):
        maker = Maker(29)
        for _ in range(60):
            one, other = Step(*maker.rules()), Step(*maker.rules())
            self.check(one, one, False)
            found = one.difference(other)
            self.check(one, other, found is not None)
            if found is None:
                for _ in range(10):
                    word = maker.word(3)
                    for address, _ in some_places(word, 2)[:6]:
                        self.assertEqual(one.letters_at(word, address),
                                         other.letters_at(word, address))


class General(unittest.TestCase):
    """[2]: arguments are not changed, and equal calls return equal results."""

    def test_equal_calls(self):
        maker = Maker(30)
        table = some_tables()[1]
        for _ in range(20):
            rules, word = maker.rules(), maker.word(4)
            same_rules, same_word = copy.deepcopy(rules), copy.deepcopy(word)
            one, other = Step(*rules), Step(*same_rules)
            self.assertEqual(one.run(word), other.run(same_word))
            self.assertEqual(one.pulled_back(table), other.pulled_back(table))
            self.assertEqual(one.difference(Step()), other.difference(Step()))
            self.assertEqual((rules, word), (same_rules, same_word))
            self.assertEqual(table, some_tables()[1])

    def test_results_go_on(self):
        word = step_of(("a(x)", "ab")).run(parse_word("(ca)>a<"))
        self.assertEqual(letter_at(word, first_place(word)), "c")
        self.assertTrue(Query(parse_formula("a(x)")).holds(word, list(walk(word))[1]))
        self.assertIsNone(length(mirror(word)))

    def test_by_name(self):
        step = step_of(GOOD)
        table = some_tables()[0]
        self.assertEqual(step.run(word=A), B)
        self.assertEqual(step.letters_at(address=(), word=A), "b")
        self.assertEqual(step.letters_between(behind=EMPTY, ahead=left(C), letter="a"), "b")
        self.assertEqual(step.pulled_back(table=table), Table.constant(False))
        self.assertIsNone(step.difference(other=step))


if __name__ == "__main__":
    unittest.main()
