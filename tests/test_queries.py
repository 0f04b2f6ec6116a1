"""scatterwords/queries.py: where formulas hold, how often, first and last, and marked words."""

import copy
import unittest

from helpers import A, B, C, EMPTY, MOST, join, left, nested, right, some_places, times
from plain import (BEHIND, FIRST, LAST, NEAR_START, ODD, QUERIES, SECOND, Maker, all_letters,
                   is_true)
from scatterwords.errors import FreeVariables, InvalidAddress, UnknownName
from scatterwords.formulatext import parse_formula
from scatterwords.places import cut, letter_at, walk
from scatterwords.queries import Query
from scatterwords.tables import compiled
from scatterwords.words import (depth, is_empty, length, letter_count, mirror, node_count,
                                unmarked)
from scatterwords.wordtext import format_word, parse_word

BEHIND_A = BEHIND.format("a")
HAS_NEXT = "some y x next y"
ENDLESS = ("a>", "a<", "(ab)>", "(ab)<", "(bca)<b", "c(cb)>", "(a>)>", "(a<b)>", "(ba>)<",
           "(ab<c)<a", "((ab)^3c)>", "(b(ca)^5)<", "((a>)<b)>", "(b<a>)^3", "c(ab)^7(b<)<")


def query_of(text):
    return Query(parse_formula(text))


def marked(text, word):
    """Return the letters of the marked word of the text of a word without endless copies."""
    found = query_of(text).marked(parse_word(word))
    return "".join(letter_at(found, address) for address in walk(found, many=100))


def hits_of(query, word, copies):
    """Return the addresses of the hits among the places of a word, few copies of endless ones."""
    return [address for address, _ in some_places(word, copies) if query.holds(word, address)]


class Errors(unittest.TestCase):
    def test_free_variables_other_than_x(self):
        for text, variables in (("a(y)", ["y"]), ("x < y", ["y"]), ("(x in X or z in Z)",
                                                                    ["X", "Z", "z"]),
                                ("some y (x < y and y in Y)", ["Y"]), ("some x x in X", ["X"])):
            with self.assertRaises(FreeVariables) as caught:
                query_of(text)
            self.assertEqual(caught.exception.variables, variables)

    def test_free_variables_come_first(self):
        with self.assertRaises(FreeVariables) as caught:
            query_of("({oak} and y = x)")
        self.assertEqual(caught.exception.variables, ["y"])

    def test_unknown_name(self):
        for text, name in (("{oak}", "oak"), ("(a(x) and not {oak})", "oak"),
                           ("({oak} or some y ({elm} and x < y))", "elm")):
            with self.assertRaises(UnknownName) as caught:
                query_of(text)
            self.assertEqual(caught.exception.name, name)

    def test_what_is_a_query(self):
        for text in ("a(x)", "x = x", "some x a(x)", "all X some x x in X", FIRST,
                     "some X x in X", "(a(x) and some x b(x))"):
            query_of(text)

    def test_invalid_addresses(self):
        query = query_of("a(x)")
        word = parse_word("a(bc)>a^3c<")
        for address in ((), (4,), (-1,), (0, 0), (1, 0), (1, -1, 0), (1, MOST + 1, 0), (2, 3),
                        (3, MOST + 1), (3, 0, 0)):
            with self.assertRaises(InvalidAddress):
                query.holds(word, address)
        with self.assertRaises(InvalidAddress):
            query.holds(EMPTY, ())


class Holds(unittest.TestCase):
    def test_finite_words_by_a_plain_reading(self):
        maker = Maker(11)
        texts = [text for text in all_letters(4) if text]
        for _ in range(120):
            formula = maker.query()
            query = Query(formula)
            for letters in maker.random.sample(texts, 6):
                word = parse_word(letters)
                for at in range(len(letters)):
                    address = () if len(letters) == 1 else (at,)
                    self.assertIs(query.holds(word, address), is_true(formula, letters, {"x": at}),
                                  (formula, letters, at))

    def test_places_far_from_the_ends(self):
        start, behind_a = query_of(NEAR_START), query_of(BEHIND_A)
        word = parse_word(f"(ab)^{MOST}c>")
        self.assertTrue(start.holds(word, (0, 0, 0)))
        self.assertTrue(start.holds(word, (0, 0, 1)))
        self.assertFalse(start.holds(word, (0, 1, 0)))
        self.assertFalse(start.holds(word, (0, MOST - 1, 1)))
        self.assertFalse(start.holds(word, (1, MOST)))
        self.assertTrue(behind_a.holds(word, (0, MOST - 1, 1)))
        self.assertFalse(behind_a.holds(word, (0, MOST - 1, 0)))
        self.assertFalse(behind_a.holds(word, (1, 0)))
        odd = query_of(ODD)
        self.assertTrue(odd.holds(right(A), (MOST,)))
        self.assertFalse(odd.holds(right(A), (MOST - 1,)))
        self.assertTrue(odd.holds(times(join(A, B), MOST), (MOST - 1, 0)))
        self.assertFalse(odd.holds(times(join(A, B), MOST), (MOST // 2, 1)))

    def test_endless_copies(self):
        has_next, last = query_of(HAS_NEXT), query_of(LAST)
        self.assertTrue(has_next.holds(left(A), (1,)))
        self.assertFalse(has_next.holds(left(A), (0,)))
        self.assertTrue(last.holds(left(A), (0,)))
        self.assertFalse(last.holds(left(A), (MOST,)))
        self.assertFalse(has_next.holds(join(A, left(B)), (0,)))
        self.assertTrue(has_next.holds(join(A, right(B)), (0,)))
        self.assertTrue(has_next.holds(right(left(A)), (3, 5)))
        self.assertFalse(has_next.holds(right(left(A)), (3, 0)))
        self.assertFalse(last.holds(right(left(A)), (3, 0)))

    def test_a_formula_without_x(self):
        query = query_of("some x b(x)")
        self.assertTrue(query.holds(parse_word("ab"), (0,)))
        self.assertTrue(query.holds(parse_word("ab"), (1,)))
        self.assertFalse(query.holds(parse_word("ac>"), (0,)))
        self.assertTrue(query_of("all x x = x").holds(A, ()))

    def test_x_chosen_again_within(self):
        query = query_of("(a(x) and some x b(x))")
        self.assertTrue(query.holds(parse_word("ab"), (0,)))
        self.assertFalse(query.holds(parse_word("ab"), (1,)))
        self.assertFalse(query.holds(parse_word("aa"), (0,)))

    def test_holds_between(self):
        query = query_of(BEHIND_A)
        for ahead, letter, behind, answer in (
                ("a", "b", "c", True), ("b", "a", "", False), ("", "a", "a", False),
                ("a>", "b", "", False), ("a<", "b", "", True), ("(ba)<", "c", "(a<)>", True)):
            self.assertIs(query.holds_between(parse_word(ahead), letter, parse_word(behind)),
                          answer)
        self.assertTrue(query_of("c(x)").holds_between(EMPTY, "c", EMPTY))
        self.assertFalse(query_of("c(x)").holds_between(left(C), "b", right(C)))

    def test_holds_and_holds_between_agree(self):
        maker = Maker(12)
        for _ in range(60):
            query, word = Query(maker.query()), maker.word(4)
            for address, _ in some_places(word, 2)[:12]:
                ahead, letter, behind = cut(word, address)
                self.assertIs(query.holds(word, address),
                              query.holds_between(ahead, letter, behind))


class Total(unittest.TestCase):
    def test_finite(self):
        for text, word, total in (
                ("a(x)", "abca", 2), ("a(x)", "", 0), ("a(x)", "b", 0), ("a(x)", "a^0", 0),
                (BEHIND_A, "aab", 2), (FIRST, "a^5", 1), (FIRST, "(a^5)^0", 0),
                (BEHIND_A, f"(ab)^{MOST}", MOST), (BEHIND_A, f"(ab)^{MOST}a^3", MOST + 2),
                (HAS_NEXT, f"a^{MOST}", MOST - 1), (NEAR_START, f"a^{MOST}", 2),
                (ODD, f"a^{MOST}", MOST // 2), (ODD, f"a^{MOST - 1}", MOST // 2),
                ("some x b(x)", f"(ab)^{MOST}", 2 * MOST), ("some x c(x)", f"(ab)^{MOST}", 0),
                (ODD, f"(abc)^{MOST}", 3 * MOST // 2),
                (HAS_NEXT, f"((ab)^{MOST}c)^{MOST}", (2 * MOST + 1) * MOST - 1)):
            self.assertEqual(query_of(text).total(parse_word(word)), total, (text, word))

    def test_finitely_many_in_endless_words(self):
        for text, word, total in (
                (FIRST, "(ab)>", 1), (LAST, "(ab)<", 1), (FIRST, "(ab)<", 0),
                (NEAR_START, "(ab)>", 2), ("c(x)", "(ab)>c(ba)<", 1), ("c(x)", "a>c^5b>", 5),
                ("(b(x) and not some y y next x)", "a>ba>b", 2), (FIRST, "(a>)>", 1),
                ("not some y y next x", f"(a>)^{MOST}", MOST),
                ("not some y y next x", "(a>b)^3", 4)):
            self.assertEqual(query_of(text).total(parse_word(word)), total, (text, word))

    def test_endlessly_many(self):
        for text, word in (("a(x)", "a>"), ("a(x)", "(ab)<c"), (HAS_NEXT, "a<"), (ODD, "b>"),
                           ("not some y y next x", "(a>)>"), (BEHIND_A, "(ca<b)<c")):
            self.assertIsNone(query_of(text).total(parse_word(word)))
        self.assertIsNone(query_of("some x c(x)").total(parse_word("(ab)>c")))

    def test_it_is_the_number_of_marked_letters(self):
        maker = Maker(13)
        for _ in range(80):
            query, word = Query(maker.query()), maker.word(5)
            found = query.marked(word)
            counts = [letter_count(found, sign) for sign in "ABC"]
            self.assertEqual(query.total(word), None if None in counts else sum(counts))

    def test_20_levels(self):
        word = A
        for _ in range(19):
            word = times(word, MOST - 1)
        many = (MOST - 1) ** 19
        self.assertEqual(query_of("a(x)").total(word), many)
        self.assertEqual(query_of(HAS_NEXT).total(word), many - 1)
        self.assertEqual(query_of(ODD).total(word), (many + 1) // 2)
        self.assertIsNone(query_of(HAS_NEXT).total(nested(A, 19)))


class Ends(unittest.TestCase):
    """first and last."""

    def check(self, text, word, first, last):
        query = query_of(text)
        with self.subTest(text=text, word=word):
            self.assertEqual(query.first(parse_word(word)), first)
            self.assertEqual(query.last(parse_word(word)), last)

    def test_the_example_of_the_document(self):
        query = query_of("(a(x) and some y y < x)")
        self.assertEqual([query.first(parse_word("ab(ca)>")), query.first(parse_word("(ab)<"))],
                         [("place", (2, 0, 1)), ("endless",)])

    def test_places(self):
        self.check("a(x)", "a", ("place", ()), ("place", ()))
        self.check("a(x)", "bab", ("place", (1,)), ("place", (1,)))
        self.check("a(x)", "baba", ("place", (1,)), ("place", (3,)))
        self.check("a(x)", "(ba)^7", ("place", (0, 1)), ("place", (6, 1)))
        self.check("a(x)", f"(ba)^{MOST}c", ("place", (0, 0, 1)), ("place", (0, MOST - 1, 1)))
        self.check(BEHIND_A, f"(ba)^{MOST}", ("place", (1, 0)), ("place", (MOST - 1, 0)))
        self.check(HAS_NEXT, f"a^{MOST}", ("place", (0,)), ("place", (MOST - 2,)))
        self.check(ODD, f"(abc)^{MOST}", ("place", (0, 0)), ("place", (MOST - 1, 1)))

    def test_nowhere(self):
        for text, word in (("a(x)", "b"), ("a(x)", ""), ("a(x)", "(bc)>"), ("a(x)", "b(a^0)>"),
                           (FIRST, "a<"), (LAST, "a>"), ("x < x", "(a>)<"), ("a(x)", "a^0"),
                           ("some x c(x)", "ab<"), ("all x x = x", "()")):
            self.check(text, word, ("none",), ("none",))

    def test_endless_on_both_sides(self):
        self.check("a(x)", "a>", ("place", (0,)), ("endless",))
        self.check("a(x)", "a<", ("endless",), ("place", (0,)))
        self.check("a(x)", "a<ba>", ("endless",), ("endless",))
        self.check("a(x)", "b<ab>", ("place", (1,)), ("place", (1,)))
        self.check("a(x)", "ba>c", ("place", (1, 0)), ("endless",))
        self.check("a(x)", "ba>a", ("place", (1, 0)), ("place", (2,)))
        self.check("a(x)", "a<b", ("endless",), ("place", (0, 0)))

    def test_few_of_endlessly_many_copies(self):
        self.check(FIRST, "(ab)>", ("place", (0, 0)), ("place", (0, 0)))
        self.check(LAST, "(ab)<", ("place", (0, 1)), ("place", (0, 1)))
        self.check(NEAR_START, "a>", ("place", (0,)), ("place", (1,)))
        self.check("not some y some z (x < y and y < z)", "a<", ("place", (1,)), ("place", (0,)))
        self.check(NEAR_START, "b<a>", ("none",), ("none",))

    def test_endless_copies_within_endless_copies(self):
        self.check("a(x)", "(a<)>", ("endless",), ("endless",))
        self.check("a(x)", "(ba<)>", ("endless",), ("endless",))
        self.check("b(x)", "(ba<)>", ("place", (0, 0)), ("endless",))
        self.check("b(x)", "(a<b)<", ("endless",), ("place", (0, 1)))
        self.check("a(x)", "(a<b)<", ("endless",), ("place", (0, 0, 0)))
        self.check("a(x)", "(ba>)<", ("endless",), ("endless",))
        self.check("a(x)", "(a>)>", ("place", (0, 0)), ("endless",))
        self.check("a(x)", "(a>)<", ("endless",), ("endless",))
        self.check("a(x)", "(a<)<", ("endless",), ("place", (0, 0)))
        self.check(f"(a(x) and {FIRST})", "(ab>)>", ("place", (0, 0)), ("place", (0, 0)))
        # Only the first copy is as it should be, and its last a is the last one.
        self.check("(a(x) and not some y (y < x and b(y)))", "(a<b)>",
                   ("endless",), ("place", (0, 0, 0)))
        self.check("(a(x) and not some y (x < y and b(y)))", "(ba>)<",
                   ("place", (0, 1, 0)), ("endless",))
        self.check("(a(x) and not some y (y < x and b(y)))", "(a<b)<", ("none",), ("none",))

    def test_the_first_of_copies_that_differ(self):
        text = "(a(x) and some y some z (y < z and (z < x and (b(y) and b(z)))))"
        self.check(text, "(ab)>", ("place", (2, 0)), ("endless",))
        self.check(text, "(ab)^2", ("none",), ("none",))
        self.check(text, "(ab)^3", ("place", (2, 0)), ("place", (2, 0)))
        self.check(text, f"(ab)^{MOST}", ("place", (2, 0)), ("place", (MOST - 1, 0)))
        self.check(text, "(ba)<", ("endless",), ("place", (0, 1)))

    def test_small_words_place_by_place(self):
        maker = Maker(14)
        for _ in range(120):
            query, word = Query(maker.query()), maker.word(4)
            if len(some_places(word, 8)) > 400:
                continue
            few, many = hits_of(query, word, 6), hits_of(query, word, 8)
            for end, at in ((query.first(word), 0), (query.last(word), -1)):
                with self.subTest(word=word):
                    if not many:
                        self.assertEqual(end, ("none",))
                    elif few and few[at] == many[at]:
                        self.assertEqual(end, ("place", many[at]))
                    else:
                        self.assertEqual(end, ("endless",))

    def test_the_tuples(self):
        for word in (A, B, right(A), left(A)):
            for end in (query_of("a(x)").first(word), query_of("a(x)").last(word)):
                self.assertIs(type(end), tuple)
                self.assertEqual(len(end), 2 if end[0] == "place" else 1)

    def test_20_levels(self):
        word = A
        for _ in range(19):
            word = times(word, MOST)
        self.check_word(query_of("some y y < x"), word, (0,) * 18 + (1,), (MOST - 1,) * 19)
        query = query_of("a(x)")
        self.assertEqual(query.first(nested(A, 19)), ("place", (0,) * 19))
        self.assertEqual(query.last(nested(A, 19)), ("endless",))
        self.assertEqual(query.last(nested(A, 19, "left")), ("place", (0,) * 19))

    def check_word(self, query, word, first, last):
        self.assertEqual(query.first(word), ("place", first))
        self.assertEqual(query.last(word), ("place", last))


class ManyCopies(unittest.TestCase):
    """Queries that do different things along copies, compared with holds place by place."""

    def test_finite_numbers_of_copies(self):
        for text in QUERIES:
            query = query_of(text)
            for part, ahead, behind in ((A, EMPTY, EMPTY), (join(A, B), EMPTY, EMPTY), (B, C, A),
                                        (join(C, A, B), B, C), (times(B, 2), A, EMPTY)):
                for many in (*range(8), 11, 12):
                    self.check(query, join(ahead, times(part, many), behind))

    def check(self, query, word):
        places = some_places(word, 0)
        hits = [address for address, _ in places if query.holds(word, address)]
        letters = [letter.upper() if address in hits else letter for address, letter in places]
        found = query.marked(word)
        with self.subTest(word=word):
            self.assertEqual([letter_at(found, address) for address in walk(found, many=100)],
                             letters)
            self.assertEqual(query.total(word), len(hits))
            self.assertEqual(query.first(word), ("place", hits[0]) if hits else ("none",))
            self.assertEqual(query.last(word), ("place", hits[-1]) if hits else ("none",))

    def test_endlessly_many_copies(self):
        for text in QUERIES:
            query = query_of(text)
            for word_text in ENDLESS:
                word = parse_word(word_text)
                few, many = hits_of(query, word, 6), hits_of(query, word, 8)
                with self.subTest(text=text, word=word_text):
                    self.assertEqual(query.total(word), len(few) if few == many else None)
                    self.check_end(query.first(word), few[:1], many[:1])
                    self.check_end(query.last(word), few[-1:], many[-1:])

    def check_end(self, end, few, many):
        """Check an end by the list of the first or last hit among fewer and more copies."""
        if not many:
            self.assertEqual(end, ("none",))
        else:
            self.assertEqual(end, ("place", many[0]) if few == many else ("endless",))

    def test_marks_of_endlessly_many_copies(self):
        for text in QUERIES:
            query = query_of(text)
            for word_text in ENDLESS:
                word = parse_word(word_text)
                found = query.marked(word)
                shown = [letter_at(found, address) for address in walk(found, many=20)]
                self.assertEqual(shown, [self.marked_letter(query, *cut(word, address))
                                         for address in walk(word, many=20)])
                # From the right: the places of the mirrored words.
                turned, turned_word = mirror(found), mirror(word)
                shown = [letter_at(turned, address) for address in walk(turned, many=20)]
                expected = []
                for address in walk(turned_word, many=20):
                    behind, letter, ahead = cut(turned_word, address)
                    expected.append(self.marked_letter(query, mirror(ahead), letter,
                                                       mirror(behind)))
                self.assertEqual(shown, expected)

    def marked_letter(self, query, ahead, letter, behind):
        return letter.upper() if query.holds_between(ahead, letter, behind) else letter

    def test_few_copies_before_those_that_repeat(self):
        # Only the second of endlessly many copies, or only the first one.
        for text, word, first, last in (
                (SECOND, "a>", ("place", (1,)), ("place", (1,))),
                (SECOND, "a<", ("none",), ("none",)),
                (f"({FIRST} or ({SECOND} and b(x)))", "a>", ("place", (0,)), ("place", (0,))),
                (f"({LAST} or some y (x next y and (b(y) and not some z y < z)))", "a<",
                 ("place", (0,)), ("place", (0,)))):
            query = query_of(text)
            self.assertEqual(query.first(parse_word(word)), first)
            self.assertEqual(query.last(parse_word(word)), last)


class Marked(unittest.TestCase):
    def test_finite_words(self):
        for text, word, letters in (
                ("a(x)", "abca", "AbcA"), ("a(x)", "b", "b"), ("a(x)", "a", "A"),
                ("a(x)", "", ""), (BEHIND_A, "aabac", "aABaC"), (FIRST, "(ab)^3", "Ababab"),
                (LAST, "(ab)^3", "ababaB"), (ODD, "a^7", "AaAaAaA"), (ODD, "(abc)^3", "AbCaBcAbC"),
                (NEAR_START, "c^9", "CCccccccc"), ("some x b(x)", "ab", "AB"),
                ("some x b(x)", "ac", "ac"), (HAS_NEXT, "(ab)^2(ca)^2", "ABABCACa")):
            self.assertEqual(marked(text, word), letters, (text, word))

    def test_finite_words_by_a_plain_reading(self):
        maker = Maker(15)
        for _ in range(80):
            formula = maker.query()
            letters = "".join(maker.random.choices("abc", k=maker.random.randint(0, 4)))
            found = Query(formula).marked(parse_word(letters))
            shown = "".join(letter_at(found, address) for address in walk(found, many=100))
            expected = [sign.upper() if is_true(formula, letters, {"x": at}) else sign
                        for at, sign in enumerate(letters)]
            self.assertEqual(shown, "".join(expected))

    def test_great_numbers(self):
        for text, word, counts in (
                (FIRST, f"a^{MOST}", {"A": 1, "a": MOST - 1}),
                (ODD, f"(ab)^{MOST}", {"A": MOST, "a": 0, "b": MOST}),
                (ODD, f"(abc)^{MOST - 1}", {"A": MOST // 2, "a": MOST // 2 - 1, "B": MOST // 2 - 1}),
                (BEHIND_A, f"(ab)^{MOST}c", {"B": MOST, "c": 1, "A": 0}),
                (HAS_NEXT, f"((ab)^{MOST}c)^{MOST}c", {"A": MOST ** 2, "C": MOST, "c": 1})):
            found = query_of(text).marked(parse_word(word))
            for letter in counts:
                self.assertEqual(letter_count(found, letter), counts[letter], (text, word))
            self.assertEqual(length(found), length(parse_word(word)))

    def test_places_of_a_marked_word(self):
        found = query_of(FIRST).marked(parse_word(f"(ab)^{MOST}"))
        ahead, letter, behind = cut(found, next(walk(found)))
        self.assertEqual((length(ahead), letter, length(behind)), (0, "A", 2 * MOST - 1))
        self.assertEqual(letter_count(behind, "A"), 0)

    def test_endless_words_place_by_place(self):
        maker = Maker(16)
        for _ in range(150):
            query, word = Query(maker.query()), maker.word(5)
            found = query.marked(word)
            letters = [letter_at(found, address) for address in walk(found, many=15)]
            expected = [letter_at(word, address).upper() if query.holds(word, address)
                        else letter_at(word, address) for address in walk(word, many=15)]
            self.assertEqual(letters, expected)
            # The same from the right: the places of the mirrored words are in reversed order.
            backwards = mirror(found)
            plain = [letter_at(backwards, address).lower() for address in walk(backwards)]
            self.assertEqual(plain, [letter_at(mirror(word), address)
                                     for address in walk(mirror(word))])

    def test_the_unmarked_word_is_the_word(self):
        maker = Maker(17)
        tables = [compiled(maker.sentence()) for _ in range(40)]
        tables = sorted(tables, key=len)[-12:]
        for _ in range(80):
            query, word = Query(maker.query()), maker.word(5)
            plain = unmarked(query.marked(word))
            for table in tables:
                self.assertEqual(table.value(plain), table.value(word))
            for letter in "abc":
                self.assertEqual(letter_count(plain, letter), letter_count(word, letter))
            self.assertIs(is_empty(plain), is_empty(word))

    def test_words_keep_small(self):
        for text, word in ((FIRST, "((((a^9b)^9c)^9a)>b)<"), (LAST, f"(((a>)^{MOST}b)<c)^{MOST}"),
                           (HAS_NEXT, f"((a^{MOST}b)^{MOST}c)^{MOST}"), ("a(x)", "((ab)^5c)>")):
            word = parse_word(word)
            found = query_of(text).marked(word)
            self.assertLess(node_count(found), 12 * node_count(word))
            self.assertLess(depth(found), 3 * depth(word))
        word = A
        for _ in range(19):
            word = times(word, MOST)
        self.assertLess(node_count(query_of(FIRST).marked(word)), 300)
        self.assertLess(node_count(query_of(FIRST).marked(nested(A, 19))), 300)

    def test_equal_copies_stay_copies(self):
        for text, word, nodes in (
                ("x = x", f"(ab)^{MOST}", 4), (FIRST, f"a^{MOST}", 4), (LAST, "a<", 4),
                (SECOND, "a>", 5), (ODD, "a^8", 4), (ODD, "a^9", 6), (ODD, "a>", 4),
                (f"({ODD} and b(x))", "a^9", 2), (f"({ODD} and b(x))", "a>", 2),
                (f"({NEAR_START} and b(x))", "a>", 2), (f"({NEAR_START} and b(x))", "a^9", 2),
                (NEAR_START, f"a^{MOST}", 5), (NEAR_START, "(ab)>", 7)):
            self.assertEqual(node_count(query_of(text).marked(parse_word(word))), nodes,
                             (text, word))

    def test_nothing_is_said_of_letters_without_a_hit(self):
        word = parse_word(f"(abc)^{MOST}(ab)>c<")
        found = query_of("x < x").marked(word)
        self.assertEqual([letter_count(found, sign) for sign in "ABC"], [0, 0, 0])
        found = query_of("x = x").marked(word)
        self.assertEqual([letter_count(found, sign) for sign in "abc"], [0, 0, 0])
        self.assertIsInstance(format_word(found), str)


class General(unittest.TestCase):
    """[2]: arguments are not changed, and equal calls return equal results."""

    def test_equal_calls(self):
        maker = Maker(18)
        for _ in range(30):
            formula, word = maker.query(), maker.word(4)
            same_formula, same_word = copy.deepcopy(formula), copy.deepcopy(word)
            one, other = Query(formula), Query(same_formula)
            for act in ("total", "first", "last", "marked"):
                self.assertEqual(getattr(one, act)(word), getattr(other, act)(same_word))
                self.assertEqual(getattr(one, act)(word), getattr(one, act)(word))
            self.assertEqual((formula, word), (same_formula, same_word))

    def test_by_name(self):
        query = Query(formula=parse_formula("a(x)"))
        self.assertTrue(query.holds(address=(0,), word=join(A, B)))
        self.assertTrue(query.holds_between(behind=B, letter="a", ahead=EMPTY))
        self.assertEqual(query.total(word=A), 1)
        self.assertEqual(query.first(word=A), ("place", ()))
        self.assertEqual(query.last(word=A), ("place", ()))
        self.assertEqual(query.marked(word=A), ("letter", "A"))


if __name__ == "__main__":
    unittest.main()
