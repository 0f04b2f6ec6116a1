"""scatterwords/wordtext.py: texts of words, their errors, and the names in words."""

import itertools
import unittest

from helpers import A, B, C, EMPTY, MOST, join, left, name, nested, right, some_words, times
from scatterwords import wordtext
from scatterwords.errors import InvalidText, ScatterError, TooLarge
from scatterwords.words import depth, length
from scatterwords.wordtext import format_word, names_in, parse_word

# Texts that are written as format_word writes them.
WRITTEN = (
    ("()", EMPTY),
    ("a", A),
    ("b", B),
    ("c", C),
    ("{oak}", name("oak")),
    ("{a}", name("a")),
    ("{abcdefgh}", name("abcdefgh")),
    ("ab", join(A, B)),
    ("abca", join(A, B, C, A)),
    ("a()b", join(A, EMPTY, B)),
    ("()()", join(EMPTY, EMPTY)),
    ("a>", right(A)),
    ("a<", left(A)),
    ("a^3", times(A, 3)),
    ("a^0", times(A, 0)),
    ("a^1", times(A, 1)),
    ("a^10", times(A, 10)),
    ("()^3", times(EMPTY, 3)),
    ("()>", right(EMPTY)),
    ("()<", left(EMPTY)),
    ("a><", left(right(A))),
    ("a<>", right(left(A))),
    ("a>>>", nested(A, 3)),
    ("a^3>", right(times(A, 3))),
    ("a>^3", times(right(A), 3)),
    ("a^3^4", times(times(A, 3), 4)),
    ("a^0^0<", left(times(times(A, 0), 0))),
    ("a^2b", join(times(A, 2), B)),
    ("ab^2", join(A, times(B, 2))),
    ("(ab)^2", times(join(A, B), 2)),
    ("(ab)>", right(join(A, B))),
    ("(ab)<", left(join(A, B))),
    ("(ab)c", join(join(A, B), C)),
    ("a(bc)", join(A, join(B, C))),
    ("(ab)(ca)", join(join(A, B), join(C, A))),
    ("((ab)c)>", right(join(join(A, B), C))),
    ("(a>b)<c", join(left(join(right(A), B)), C)),
    ("(ab)>c<a^2", join(right(join(A, B)), left(C), times(A, 2))),
    ("{oak}>", right(name("oak"))),
    ("{oak}^5{elm}", join(times(name("oak"), 5), name("elm"))),
    ("(a{oak})<", left(join(A, name("oak")))),
    ("a^" + "1" + "0" * 30, times(A, MOST)),
    ("a^" + "9" * 30, times(A, MOST - 1)),
)

# Texts that mean the same with fewer parentheses.
LOOSE = (
    ("", EMPTY),
    ("(())", EMPTY),
    ("((()))", EMPTY),
    ("(a)", A),
    ("((a))", A),
    ("(ab)", join(A, B)),
    ("((ab))", join(A, B)),
    ("(a)(b)", join(A, B)),
    ("((ab))c", join(join(A, B), C)),
    ("(a)>", right(A)),
    ("(a>)", right(A)),
    ("(a>)<", left(right(A))),
    ("(a^2)^3", times(times(A, 2), 3)),
    ("(())^2", times(EMPTY, 2)),
    ("({oak})", name("oak")),
    ("a(())", join(A, EMPTY)),
    ("(((ab)))>", right(join(A, B))),
)

# The text and the position of the first character that cannot stand where it stands.
INVALID = (
    ("d", 0), ("A", 0), (" ", 0), ("\n", 0), ("1", 0), ("~", 0), ("%", 0),
    ("ad", 1), ("aB", 1), ("a b", 1), ("a\n", 1), ("a1", 1), ("a_", 1), ("a,b", 1),
    (">", 0), ("<", 0), ("^", 0), ("^3", 0), ("(>)", 1), ("(<a)", 1), ("(^2)", 1), ("a(>)", 2),
    (")", 0), ("a)", 1), ("(a))", 3), ("())", 2), ("a>)", 2), ("(]", 1),
    ("(", 1), ("(a", 2), ("(()", 3), ("((a)", 4), ("a(b>", 4), ("ab(", 3),
    ("a^", 2), ("a^b", 2), ("a^>", 2), ("a^^2", 2), ("a^(2)", 2), ("(a^)", 3), ("a^ 2", 2),
    ("a^-1", 2), ("a^+1", 2), ("(ab)^", 5),
    ("a^00", 2), ("a^01", 2), ("a^007b", 2), ("a^0" + "1" * 40, 2), ("ab^3^02", 5),
    ("a^1" + "0" * 29 + "1", 2), ("a^2" + "0" * 30, 2), ("a^1" + "0" * 31, 2),
    ("a^" + "9" * 31, 2), ("a^" + "9" * 198, 2), ("(bb^" + "9" * 40 + "d", 4),
    ("a^3.", 3), ("a^3,4", 3), ("a^3 ", 3), ("a^0x", 3),
    ("{}", 1), ("{", 1), ("a{}", 2), ("{ }", 1), ("{>", 1), ("{{a}}", 1), ("{(", 1),
    ("{oak", 4), ("{abcdefgh", 9), ("{oak ", 4), ("{oak>", 4), ("{oaK}", 3), ("{oak1}", 4),
    ("{Oak}", 1), ("{o-k}", 2), ("{oak{", 4), ("{oak(", 4), ("({oak", 5), ("{1}", 1),
    ("{abcdefghi}", 9), ("{abcdefghi", 9), ("{abcdefghI}", 9), ("b{abcdefghijkl}", 10),
    ("}", 0), ("a}", 1), ("{oak}}", 5),
)


class Constants(unittest.TestCase):
    def test_values(self):
        self.assertEqual((wordtext.MAX_TEXT, wordtext.MAX_OPEN, wordtext.MAX_DEPTH), (200, 8, 12))


class Errors(unittest.TestCase):
    """Ways to check the error of a text."""

    def check_invalid(self, text, position):
        with self.subTest(text), self.assertRaises(InvalidText) as caught:
            parse_word(text)
        self.assertEqual((text, caught.exception.position), (text, position))
        self.assertEqual(caught.exception.code, "InvalidText")

    def check_too_large(self, text, limit):
        with self.subTest(text), self.assertRaises(TooLarge) as caught:
            parse_word(text)
        self.assertEqual((text, caught.exception.limit), (text, limit))
        self.assertEqual(caught.exception.code, "TooLarge")


class Parsing(unittest.TestCase):
    def test_the_example_of_the_document(self):
        self.assertEqual(parse_word("(ab)>c"), ("join", (
            ("right", ("join", (("letter", "a"), ("letter", "b")))), ("letter", "c"))))

    def test_trees(self):
        for text, word in WRITTEN + LOOSE:
            with self.subTest(text):
                self.assertEqual(parse_word(text), word)

    def test_by_name(self):
        self.assertEqual(parse_word(text="a"), A)

    def test_equal_calls_return_equal_words(self):
        for text, _ in WRITTEN:
            self.assertEqual(parse_word(text), parse_word(text))

    def test_many_copies_within_many_copies(self):
        most = str(MOST)
        self.assertEqual(length(parse_word(f"(ab)^{most}^{most}^{most}^{most}")), 2 * MOST ** 4)


class Formatting(unittest.TestCase):
    def test_texts(self):
        for text, word in WRITTEN:
            with self.subTest(text):
                self.assertEqual(format_word(word), text)

    def test_parentheses_that_are_not_needed_are_left_out(self):
        for text, plain in (("", "()"), ("((a))", "a"), ("(a)(b)", "ab"), ("((ab))", "ab"),
                            ("(a>)", "a>"), ("((ab))>", "(ab)>"), ("a(())", "a()")):
            self.assertEqual(format_word(parse_word(text)), plain)

    def test_there_and_back(self):
        written = 0
        for word in some_words(3):
            if "C" not in format_word(word):
                written += 1
                self.assertEqual(parse_word(format_word(word)), word)
        self.assertGreater(written, 100)

    def test_a_word_that_is_too_large_to_be_parsed(self):
        self.assertEqual(format_word(nested(A, 19)), "a" + ">" * 19)
        self.assertEqual(format_word(join(*[A] * 299)), "a" * 299)
        self.assertEqual(format_word(times(times(A, MOST), MOST)), f"a^{MOST}^{MOST}")

    def test_by_name(self):
        self.assertEqual(format_word(word=right(A)), "a>")


class InvalidTexts(Errors):
    def test_positions(self):
        for text, position in INVALID:
            self.check_invalid(text, position)

    def test_the_first_of_several_errors(self):
        self.check_invalid("ad)", 1)
        self.check_invalid("a)d", 1)
        self.check_invalid("a^01d", 2)
        self.check_invalid("{}d", 1)
        self.check_invalid("(d", 1)

    def test_position_is_the_end_of_what_can_still_become_a_text(self):
        # Without 0 among the characters no numeral is wrong, so for each text the position
        # says how much of it can be completed.
        endings = [end + ")" * many for end in ("", "a", "a}", "}", "1") for many in range(5)]
        for size in range(5):
            for signs in itertools.product("a>^1({})d", repeat=size):
                text = "".join(signs)
                try:
                    parse_word(text)
                    position = None
                except InvalidText as error:
                    position = error.position
                if position is None:
                    continue
                self.assertTrue(can_be_completed(text[:position], endings), text)
                if position < len(text):
                    self.assertFalse(can_be_completed(text[:position + 1], endings), text)


def can_be_completed(text, endings):
    """Return whether the text with one of the endings is the text of a word."""
    for end in endings:
        try:
            parse_word(text + end)
            return True
        except InvalidText:
            pass
    return False


class Limits(Errors):
    def test_characters(self):
        self.assertEqual(parse_word("a" * 200), join(*[A] * 200))
        self.check_too_large("a" * 201, 200)

    def test_characters_come_before_all_other_errors(self):
        for text in ("d" * 201, "(" * 201, "a" + ">" * 200, "a^" + "9" * 199, " " * 1000):
            self.check_too_large(text, 200)
        self.check_invalid("d" * 200, 0)

    def test_open_parentheses(self):
        self.assertEqual(parse_word("(" * 8 + ")" * 8), EMPTY)
        self.assertEqual(parse_word("(" * 8 + "a" + ")" * 8), A)
        self.check_too_large("(" * 9 + ")" * 9, 8)
        self.check_too_large("a" + "(" * 9 + "a" + ")" * 9, 8)

    def test_closed_parentheses_are_not_open(self):
        self.assertEqual(parse_word("()" * 9), join(*[EMPTY] * 9))
        eight = "(" * 8 + "a" + ")" * 8
        self.assertEqual(parse_word(eight + eight), join(A, A))
        self.assertEqual(parse_word("(" * 8 + ")()" + ")" * 7), join(EMPTY, EMPTY))
        self.check_too_large("(" * 8 + ")((", 8)

    def test_errors_from_left_to_right(self):
        self.check_too_large("(" * 9, 8)
        self.check_too_large("(" * 9 + "d", 8)
        self.check_too_large("(" * 9 + "a^01", 8)
        self.check_invalid("d" + "(" * 9, 0)
        self.check_invalid("((d" + "(" * 9, 2)
        self.check_invalid("(" * 8 + "d(", 8)
        self.check_invalid("(" * 8 + ">(", 8)
        self.check_invalid("(" * 8, 8)

    def test_a_parenthesis_that_cannot_stand_there_is_not_open(self):
        self.check_invalid("(" * 8 + "a^(", 10)
        self.check_invalid("(" * 8 + "{(", 9)
        self.check_invalid("(" * 8 + "{a(", 10)

    def test_levels(self):
        self.assertEqual(parse_word("a" + ">" * 11), nested(A, 11))
        self.check_too_large("a" + ">" * 12, 12)
        self.check_too_large("a" + "<" * 199, 12)
        self.check_too_large("()" + "^1" * 12, 12)
        self.check_too_large("{oak}" + "><" * 6, 12)
        self.check_too_large("b(ab" + ">" * 10 + ")", 12)

    def test_each_kind_of_node_is_a_level(self):
        word = parse_word("(((a>b)^2c)<{oak})" + "^1" * 5)
        self.assertEqual(depth(word), 12)
        self.check_too_large("(((a>b)^2c)<{oak})" + "^1" * 6, 12)

    def test_parentheses_are_no_level(self):
        self.assertEqual(parse_word("((((a)>)>)>)" + ">" * 8), nested(A, 11))

    def test_levels_come_behind_the_other_errors(self):
        self.check_invalid("a" + ">" * 12 + "d", 13)
        self.check_invalid("(a" + ">" * 12, 14)
        self.check_invalid("a" + ">" * 12 + "^01", 14)
        self.check_too_large("a" + ">" * 12 + "(" * 9, 8)
        self.check_too_large("a" + ">" * 12 + "b" * 187, 12)
        self.check_too_large("a" + ">" * 12 + "b" * 188, 200)

    def test_names(self):
        self.assertEqual(parse_word("{abcdefgh}"), name("abcdefgh"))
        self.check_invalid("{abcdefghi}", 9)

    def test_numerals(self):
        self.assertEqual(parse_word(f"b^{MOST}"), times(B, MOST))
        self.check_invalid(f"b^{MOST + 1}", 2)
        self.assertEqual(parse_word("b^0"), times(B, 0))

    def test_all_errors_are_scatter_errors(self):
        for text in ("d", "a" * 201, "(" * 9, "a" + ">" * 12):
            self.assertRaises(ScatterError, parse_word, text)


class Names(unittest.TestCase):
    def test_ascending_each_once(self):
        rows = (
            ("", []),
            ("(ab)>c", []),
            ("{oak}", ["oak"]),
            ("{oak}{elm}", ["elm", "oak"]),
            ("{oak}{elm}{oak}", ["elm", "oak"]),
            ("({b}a{ab})>{aa}^3({b}<)", ["aa", "ab", "b"]),
            ("{oak}^0", ["oak"]),
            ("(a(b(c{z})>)<)^2{y}", ["y", "z"]),
        )
        for text, names in rows:
            with self.subTest(text):
                self.assertEqual(names_in(parse_word(text)), names)

    def test_the_list_is_new(self):
        word = parse_word("{oak}>{elm}")
        names_in(word).clear()
        self.assertEqual(names_in(word), ["elm", "oak"])
        self.assertIs(type(names_in(word)), list)

    def test_a_letter_is_no_name(self):
        self.assertEqual(names_in(join(("letter", "A"), B, name("b"))), ["b"])

    def test_by_name(self):
        self.assertEqual(names_in(word=name("oak")), ["oak"])


if __name__ == "__main__":
    unittest.main()
