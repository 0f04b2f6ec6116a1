"""scatterwords/books.py: commands, history, kept tables, twins, and watched questions."""

import inspect
import unittest

from helpers import MOST
from scatterwords import errors
from scatterwords.books import Book, WatchBook
from scatterwords.errors import (CircularName, DuplicateName, EmptyHistory, FreeVariables,
                                 InvalidCommand, InvalidName, InvalidText, LimitReached,
                                 NameInUse, TooLarge, UnknownName, WrongKind)
from scatterwords.formulatext import parse_formula
from scatterwords.tables import compiled
from scatterwords.wordtext import parse_word

NAMES = ("oak", "elm", "fir", "ash", "yew", "box", "bay", "fig", "may", "nut")


def book_of(*commands, kind=Book):
    """Return a book after one step with some commands."""
    book = kind()
    book.apply(*commands)
    return book


def small_book(kind=Book):
    """Return a book with words w and ww, which uses w, and formulas f, g and h.

    g uses f, and h uses g and f.
    """
    return book_of(("word", "w", "(ab)>"), ("word", "ww", "{w}c{w}"),
                   ("formula", "f", "some x c(x)"), ("formula", "g", "(not {f} and some x a(x))"),
                   ("formula", "h", "({g} or {f})"), kind=kind)


def state_of(book):
    """Return all that can be seen of a book without compiling."""
    names = book.known_names()
    return (names, [(book.kind_of(name), book.text(name)) for name in names], book.history(),
            book.room, book.compiled_names(), book.compilations)


class BookTest(unittest.TestCase):
    def refuse(self, book, error, attribute, *commands):
        """Check that a call is refused with an error, and that nothing changes."""
        for each in (book, book.twin()):
            before = state_of(each)
            with self.assertRaises(error) as caught:
                each.apply(*commands)
            self.assertIs(type(caught.exception), error)
            if attribute is not None:
                name, value = attribute
                self.assertEqual(getattr(caught.exception, name), value)
            self.assertEqual(state_of(each), before)


class Adding(BookTest):
    def test_words_and_formulas(self):
        book = small_book()
        self.assertEqual(book.known_names(), ["f", "g", "h", "w", "ww"])
        self.assertEqual([book.kind_of(name) for name in book.known_names()],
                         ["formula", "formula", "formula", "word", "word"])
        self.assertEqual([book.text(name) for name in book.known_names()],
                         ["some x c(x)", "(not {f} and some x a(x))", "({g} or {f})", "(ab)>",
                          "{w}c{w}"])

    def test_texts_are_those_of_the_trees(self):
        book = book_of(("word", "w", "((a)(b))>()"), ("word", "v", ""),
                       ("formula", "f", "some  x( a(x)or b(x) )"))
        self.assertEqual(book.text("w"), "(ab)>()")
        self.assertEqual(book.text("v"), "()")
        self.assertEqual(book.text("f"), "some x (a(x) or b(x))")

    def test_names(self):
        for name in ("a", "z", "abcdefgh", "some", "not", "word", "x"):
            self.assertEqual(book_of(("word", name, "a")).known_names(), [name])
        for name in ("", "abcdefghi", "A", "oakA", "oak1", "1", "o k", " oak", "oak ", "{oak}",
                     "oa_k", "oa\nk", "-"):
            for kind, text in (("word", "a"), ("formula", "some x a(x)")):
                self.refuse(Book(), InvalidName, ("name", name), (kind, name, text))

    def test_duplicate_names(self):
        book = small_book()
        for kind, name in (("word", "w"), ("word", "f"), ("formula", "f"), ("formula", "w")):
            self.refuse(book, DuplicateName, ("name", name), (kind, name, "a"))
        self.refuse(Book(), DuplicateName, ("name", "oak"), ("word", "oak", "a"),
                    ("word", "oak", "a"))

    def test_room(self):
        book = book_of(*[("word", name, "a") for name in NAMES])
        self.assertEqual(len(book), 10)
        self.refuse(book, LimitReached, ("limit", 10), ("word", "more", "a"))
        book.apply(("drop", "oak"), ("word", "more", "a"))
        book.set_room(3)
        self.refuse(book, LimitReached, ("limit", 3), ("word", "oak", "a"))
        book.apply(*[("drop", name) for name in NAMES[1:9]])
        self.assertEqual(len(book), 2)
        book.apply(("word", "oak", "a"))
        self.refuse(book, LimitReached, ("limit", 3), ("formula", "elm", "some x a(x)"))
        # The names are counted when the command is run.
        self.refuse(book, LimitReached, ("limit", 3), ("drop", "oak"), ("word", "elm", "a"),
                    ("word", "fir", "a"))

    def test_errors_of_the_texts(self):
        book = small_book()
        for kind, text, error, attribute in (
                ("word", "a" * 201, TooLarge, ("limit", 200)),
                ("word", "ad", InvalidText, ("position", 1)),
                ("word", "(a", InvalidText, ("position", 2)),
                ("word", "(" * 9 + ")" * 9, TooLarge, ("limit", 8)),
                ("word", "a" + ">" * 12, TooLarge, ("limit", 12)),
                ("formula", "a" * 301, TooLarge, ("limit", 300)),
                ("formula", "some x a(y", InvalidText, ("position", 10)),
                ("formula", "a(x)?", InvalidText, ("position", 4)),
                ("formula", "not " * 40 + "a(x)", TooLarge, ("limit", 40)),
                ("formula", "some x some y some z some x a(x)", TooLarge, ("limit", 3)),
                ("formula", "", InvalidText, ("position", 0)),
                ("formula", "a(x)", FreeVariables, ("variables", ["x"])),
                ("formula", "(x in X and {nil})", FreeVariables, ("variables", ["X", "x"])),
                ("word", "{nil}{w}{nam}", UnknownName, ("name", "nam")),
                ("formula", "({nil} and ({w} or {nam}))", UnknownName, ("name", "nam")),
                ("word", "{oak}", UnknownName, ("name", "oak")),
                ("word", "{w}{h}{f}", WrongKind, ("name", "f")),
                ("formula", "({ww} or ({f} and {w}))", WrongKind, ("name", "w")),
                ("word", "{f}{z}", UnknownName, ("name", "z"))):
            self.refuse(book, error, attribute, (kind, "oak", text))

    def test_errors_in_their_order(self):
        book = small_book()
        book.set_room(5)
        self.refuse(book, InvalidName, ("name", "Oak"), ("word", "Oak", "?"))
        self.refuse(book, DuplicateName, ("name", "w"), ("formula", "w", "?"))
        self.refuse(book, LimitReached, ("limit", 5), ("word", "oak", "?"))
        self.refuse(book, LimitReached, ("limit", 5), ("formula", "oak", "a(x)"))
        book.set_room(6)
        self.refuse(book, InvalidText, ("position", 0), ("word", "oak", "?{nil}"))
        self.refuse(book, FreeVariables, ("variables", ["x"]),
                    ("formula", "oak", "(a(x) and ({nil} and {w}))"))
        self.refuse(book, UnknownName, ("name", "nil"), ("formula", "oak", "({nil} and {w})"))
        self.refuse(book, WrongKind, ("name", "w"), ("formula", "oak", "({f} and {w})"))


class Replacing(BookTest):
    def test_other_texts(self):
        book = small_book()
        book.apply(("replace", "w", "c>"), ("replace", "f", "not some x b(x)"))
        self.assertEqual((book.text("w"), book.text("f")), ("c>", "not some x b(x)"))
        self.assertEqual((book.kind_of("w"), book.kind_of("f")), ("word", "formula"))
        self.assertEqual(len(book), 5)
        book.apply(("replace", "w", ""))
        self.assertEqual(book.text("w"), "()")

    def test_errors_in_their_order(self):
        book = small_book()
        for name, text, error, attribute in (
                ("nil", "?", UnknownName, ("name", "nil")),
                ("NIL", "a", UnknownName, ("name", "NIL")),
                ("w", "{ww}?", InvalidText, ("position", 4)),
                ("w", "{ww}{nil}", UnknownName, ("name", "nil")),
                ("w", "{ww}{w}{g}", WrongKind, ("name", "g")),
                ("w", "some x a(x)", InvalidText, ("position", 0)),
                ("f", "ab", InvalidText, ("position", 0)),
                ("f", "({f} and a(x))", FreeVariables, ("variables", ["x"])),
                ("f", "({h} and {nil})", UnknownName, ("name", "nil")),
                ("f", "({h} and {w})", WrongKind, ("name", "w")),
                ("w", "{w}", CircularName, ("name", "w")),
                ("w", "a{ww}", CircularName, ("name", "w")),
                ("f", "not {f}", CircularName, ("name", "f")),
                ("f", "{g}", CircularName, ("name", "f")),
                ("f", "(some x a(x) or {h})", CircularName, ("name", "f")),
                ("g", "{h}", CircularName, ("name", "g"))):
            self.refuse(book, error, attribute, ("replace", name, text))

    def test_what_is_not_circular(self):
        book = small_book()
        book.apply(("replace", "h", "not {f}"), ("replace", "g", "{h}"))
        self.refuse(book, CircularName, ("name", "h"), ("replace", "h", "{g}"))
        book.apply(("replace", "ww", "{w}{w}"))
        self.assertEqual(book.text("g"), "{h}")

    def test_a_full_book(self):
        book = book_of(*[("word", name, "a") for name in NAMES])
        book.set_room(1)
        book.apply(("replace", "oak", "b"))
        self.assertEqual(book.text("oak"), "b")


class Dropping(BookTest):
    def test_drop(self):
        book = small_book()
        book.apply(("drop", "h"), ("drop", "g"), ("drop", "ww"))
        self.assertEqual(book.known_names(), ["f", "w"])
        book.apply(("drop", "w"))
        self.assertNotIn("w", book)

    def test_errors(self):
        book = small_book()
        self.refuse(book, UnknownName, ("name", "nil"), ("drop", "nil"))
        self.refuse(book, UnknownName, ("name", ""), ("drop", ""))
        self.refuse(book, NameInUse, ("name", "ww"), ("drop", "w"))
        self.refuse(book, NameInUse, ("name", "g"), ("drop", "f"))
        self.refuse(book, NameInUse, ("name", "h"), ("drop", "g"))
        self.refuse(book, NameInUse, ("name", "g"), ("drop", "ww"), ("drop", "f"))


class Renaming(BookTest):
    def test_within_texts(self):
        book = small_book()
        book.apply(("rename", "f", "oak"), ("rename", "w", "elm"))
        self.assertEqual(book.known_names(), ["elm", "g", "h", "oak", "ww"])
        self.assertEqual([book.text(name) for name in book.known_names()],
                         ["(ab)>", "(not {oak} and some x a(x))", "({g} or {oak})", "some x c(x)",
                          "{elm}c{elm}"])

    def test_everywhere_in_a_text(self):
        book = book_of(("word", "w", "a"), ("word", "v", "(b{w}^2(c{w})>)<{w}"),
                       ("formula", "f", "some x x = x"),
                       ("formula", "g", "some x all Y (({f} or a(x)) and not some x {f})"))
        book.apply(("rename", "w", "longname"), ("rename", "f", "x"), ("rename", "g", "some"))
        self.assertEqual(book.text("v"), "(b{longname}^2(c{longname})>)<{longname}")
        self.assertEqual(book.text("some"), "some x all Y (({x} or a(x)) and not some x {x})")
        self.assertEqual(book.uses("some"), ["x"])
        self.assertEqual(book.users("longname"), ["v"])

    def test_names_like_letters_and_variables_stay_apart(self):
        book = book_of(("word", "a", "b"), ("word", "w", "a{a}a"),
                       ("formula", "x", "some x a(x)"), ("formula", "g", "({x} and some x a(x))"))
        book.apply(("rename", "a", "c"), ("rename", "x", "y"))
        self.assertEqual(book.text("w"), "a{c}a")
        self.assertEqual(book.text("g"), "({y} and some x a(x))")

    def test_errors_in_their_order(self):
        book = small_book()
        for old, new, error, name in (
                ("nil", "Oak", UnknownName, "nil"), ("nil", "w", UnknownName, "nil"),
                ("nil", "nil", UnknownName, "nil"), ("w", "Oak", InvalidName, "Oak"),
                ("w", "", InvalidName, ""), ("w", "abcdefghi", InvalidName, "abcdefghi"),
                ("w", "f", DuplicateName, "f"), ("w", "ww", DuplicateName, "ww"),
                ("w", "w", DuplicateName, "w"), ("f", "f", DuplicateName, "f")):
            self.refuse(book, error, ("name", name), ("rename", old, new))

    def test_in_a_full_book(self):
        book = book_of(*[("word", name, "a") for name in NAMES])
        book.set_room(2)
        book.apply(("rename", "oak", "pine"))
        self.assertEqual(book.text("pine"), "a")


class Calls(BookTest):
    """Several commands in one call, and what is no command."""

    def test_invalid_commands(self):
        book = small_book()
        for command in ((), ("",), ("Word", "oak", "a"), ("words", "oak", "a"), ("word",),
                        ("word", "oak"), ("word", "oak", "a", "b"), ("formula", "oak"),
                        ("replace", "w"), ("replace", "w", "a", "b"), ("drop",),
                        ("drop", "h", "h"), ("rename", "w"), ("rename", "w", "v", "u"),
                        ("undo",), ("name", "oak", "a"), ("holds", "f", "w")):
            self.refuse(book, InvalidCommand, ("position", 0), command)
            self.refuse(book, InvalidCommand, ("position", 1), ("drop", "h"), command)
            self.refuse(book, InvalidCommand, ("position", 2), ("drop", "nil"), ("word", "W", "?"),
                        command, ())

    def test_a_refused_one_in_the_middle(self):
        book = small_book()
        book.holds("h", "w")
        self.refuse(book, UnknownName, ("name", "nil"), ("word", "oak", "a"), ("drop", "nil"),
                    ("drop", "h"))
        self.refuse(book, NameInUse, ("name", "g"), ("drop", "h"), ("replace", "f", "some x b(x)"),
                    ("drop", "f"))
        self.refuse(book, DuplicateName, ("name", "z"), ("rename", "f", "z"),
                    ("rename", "w", "z"))

    def test_each_command_sees_those_before(self):
        book = book_of(("word", "oak", "a"), ("word", "elm", "{oak}b"), ("rename", "oak", "fir"),
                       ("replace", "fir", "c"), ("word", "oak", "{elm}{fir}"), ("drop", "oak"))
        self.assertEqual([(name, book.text(name)) for name in book.known_names()],
                         [("elm", "{fir}b"), ("fir", "c")])
        self.assertEqual(book.history(), (1, 0))

    def test_no_commands(self):
        book = Book()
        book.apply()
        book.apply()
        self.assertEqual(book.history(), (2, 0))
        book.undo()
        book.apply()
        self.assertEqual((book.history(), len(book)), ((2, 0), 0))


class History(BookTest):
    def test_undo_and_redo(self):
        book = Book()
        texts = []
        for text in ("a", "b", "c"):
            book.apply(("word", "w", text) if text == "a" else ("replace", "w", text))
            texts.append(book.text("w"))
        self.assertEqual((texts, book.history()), (["a", "b", "c"], (3, 0)))
        book.undo()
        self.assertEqual((book.text("w"), book.history()), ("b", (2, 1)))
        book.undo()
        self.assertEqual((book.text("w"), book.history()), ("a", (1, 2)))
        book.undo()
        self.assertEqual((len(book), book.history()), (0, (0, 3)))
        book.redo()
        book.redo()
        self.assertEqual((book.text("w"), book.history()), ("b", (2, 1)))
        book.redo()
        self.assertEqual((book.text("w"), book.history()), ("c", (3, 0)))

    def test_apply_ends_redo(self):
        book = small_book()
        book.apply(("drop", "h"))
        book.undo()
        self.refuse(book, UnknownName, None, ("drop", "nil"))
        self.assertEqual(book.history(), (1, 1))
        book.apply(("replace", "w", "c"))
        self.assertEqual(book.history(), (2, 0))
        self.assertRaises(EmptyHistory, book.redo)
        book.undo()
        self.assertEqual(book.text("w"), "(ab)>")

    def test_empty_history(self):
        for kind in (Book, WatchBook):
            book = kind()
            for act in (book.undo, book.redo):
                with self.assertRaises(EmptyHistory) as caught:
                    act()
                self.assertEqual(caught.exception.code, "EmptyHistory")
            book.apply(("word", "w", "a"))
            self.assertRaises(EmptyHistory, book.redo)
            book.undo()
            self.assertRaises(EmptyHistory, book.undo)
            book.redo()
            self.assertEqual((book.history(), book.text("w")), ((1, 0), "a"))

    def test_a_step_brings_back_all(self):
        book = small_book()
        before = small_book()
        book.apply(("rename", "f", "oak"), ("drop", "h"), ("replace", "g", "some x b(x)"),
                   ("word", "elm", "{ww}"))
        after = book.twin()
        book.undo()
        self.assertEqual(book, before)
        book.redo()
        self.assertEqual(book, after)

    def test_undo_goes_beyond_the_room(self):
        book = small_book()
        book.apply(("drop", "h"), ("drop", "g"), ("drop", "f"))
        book.set_room(2)
        book.undo()
        self.assertEqual((len(book), book.room), (5, 2))

    def test_history_is_a_pair(self):
        self.assertEqual(Book().history(), (0, 0))
        self.assertIs(type(Book().history()), tuple)


class Room(BookTest):
    def test_room(self):
        book = small_book()
        self.assertEqual((Book.MOST, book.MOST, WatchBook.MOST), (10, 10, 10))
        self.assertEqual(book.room, 10)
        book.set_room(2)
        self.assertEqual(book.room, 2)
        book.room = 7
        self.assertEqual((book.room, book.history()), (7, (1, 0)))
        book.undo()
        self.assertEqual(book.room, 7)
        for most in (1, 10):
            book.room = most
            self.assertEqual(book.room, most)

    def test_limits(self):
        book = Book()
        book.set_room(4)
        for most in (0, 11, -1, MOST, -MOST):
            with self.assertRaises(LimitReached) as caught:
                book.set_room(most)
            self.assertEqual(caught.exception.limit, 10)
            with self.assertRaises(LimitReached) as caught:
                book.room = most
            self.assertEqual(caught.exception.limit, 10)
            self.assertEqual(book.room, 4)

    def test_it_is_a_property(self):
        self.assertIsInstance(Book.__dict__["room"], property)
        self.assertIsInstance(Book.__dict__["compilations"], property)
        self.assertIsInstance(WatchBook.__dict__["refused"], property)


class Asking(BookTest):
    def test_known_names(self):
        book = small_book()
        self.assertEqual(book.known_names(kind="word"), ["w", "ww"])
        self.assertEqual(book.known_names(kind="formula"), ["f", "g", "h"])
        self.assertEqual(book.known_names(kind=None), ["f", "g", "h", "w", "ww"])
        self.assertEqual(Book().known_names(), [])
        self.assertRaises(TypeError, book.known_names, "word")

    def test_uses_and_users(self):
        book = small_book()
        self.assertEqual([book.uses(name) for name in ("w", "ww", "f", "g", "h")],
                         [[], ["w"], [], ["f"], ["f", "g"]])
        self.assertEqual([book.users(name) for name in ("w", "ww", "f", "g", "h")],
                         [["ww"], [], ["g", "h"], ["h"], []])

    def test_unknown_names(self):
        book = small_book()
        for act in (book.kind_of, book.text, book.uses, book.users, book.table):
            for name in ("nil", "", "F"):
                with self.assertRaises(UnknownName) as caught:
                    act(name)
                self.assertEqual(caught.exception.name, name)

    def test_in_len_and_repr(self):
        book = small_book()
        self.assertTrue("w" in book and "f" in book)
        self.assertFalse("nil" in book or "" in book)
        self.assertIs("w" in book, True)
        self.assertEqual((len(book), len(Book())), (5, 0))
        self.assertEqual(repr(book), "Book(5 names)")
        self.assertEqual(repr(small_book(WatchBook)), "Book(5 names)")
        self.assertEqual(repr(book_of(("word", "w", ""))), "Book(1 names)")

    def test_holds_and_value(self):
        book = small_book()
        book.apply(("word", "none", ""), ("formula", "no", "all x x < x"))
        for formula, word, answer in (
                ("f", "w", False), ("f", "ww", True), ("g", "w", True), ("g", "ww", False),
                ("h", "w", True), ("h", "ww", True), ("h", "none", False), ("no", "none", True),
                ("no", "w", False), ("f", "none", False)):
            self.assertIs(book.holds(formula, word), answer)
            table = book.table(formula)
            value = book.value(formula, word)
            self.assertIs(table.accepts(value), answer)
        self.assertEqual(book.value("h", "none"), 0)

    def test_the_table_of_a_formula(self):
        book = small_book()
        self.assertEqual(book.table("f"), compiled(parse_formula("some x c(x)")))
        self.assertEqual(book.table("h"), compiled(parse_formula("(some x a(x) or some x c(x))")))
        self.assertEqual(book.table("g"),
                         compiled(parse_formula("(not some x c(x) and some x a(x))")))

    def test_formulas_that_are_only_names(self):
        book = book_of(("formula", "f", "some x a(x)"), ("formula", "g", "{f}"),
                       ("formula", "h", "not {g}"), ("formula", "k", "some X {h}"),
                       ("formula", "m", "some x {h}"), ("formula", "n", "all y all Z {m}"))
        self.assertEqual(book.table("g"), compiled(parse_formula("some x a(x)")))
        self.assertEqual(book.table("h"), compiled(parse_formula("not some x a(x)")))
        self.assertEqual(book.table("k"), book.table("h"))
        self.assertEqual(book.table("m"),
                         compiled(parse_formula("(some x x = x and all x not a(x))")))
        self.assertEqual(book.table("n"),
                         compiled(parse_formula("all y all x not a(x)")))

    def test_words_within_words(self):
        book = book_of(("word", "a", "ab"), ("word", "b", "{a}>{a}<"), ("word", "c", "({b}c)^9{a}"),
                       ("formula", "f", "some x some y (x next y and (b(x) and c(y)))"),
                       ("formula", "g", "some x (a(x) and not some y y next x)"))
        for name, word in (("a", "ab"), ("b", "(ab)>(ab)<"), ("c", "((ab)>(ab)<c)^9ab")):
            for formula in ("f", "g"):
                table = book.table(formula)
                self.assertEqual(book.value(formula, name), table.value(parse_word(word)))
                self.assertIs(book.holds(formula, name), parse_word(word) in table)

    def test_words_that_would_be_very_long(self):
        commands = [("word", "a", "ab")]
        for name, inner in zip("bcdefghi", "abcdefgh"):
            commands.append(("word", name, ("{" + inner + "}") * 60))
        book = book_of(*commands, ("formula", "z", "all x (a(x) or some y (y next x and a(y)))"))
        self.assertTrue(book.holds("z", "i"))

    def test_errors_formula_first(self):
        book = small_book()
        for act in (book.holds, book.value):
            for formula, word, error, name in (
                    ("nil", "nul", UnknownName, "nil"), ("w", "nul", WrongKind, "w"),
                    ("nil", "f", UnknownName, "nil"), ("ww", "f", WrongKind, "ww"),
                    ("f", "nul", UnknownName, "nul"), ("f", "g", WrongKind, "g"),
                    ("f", "f", WrongKind, "f"), ("w", "w", WrongKind, "w")):
                with self.assertRaises(error) as caught:
                    act(formula, word)
                self.assertEqual(caught.exception.name, name)
        with self.assertRaises(WrongKind) as caught:
            book.table("w")
        self.assertEqual(caught.exception.name, "w")
        self.assertEqual((book.compilations, book.compiled_names()), (0, []))

    def test_lists_are_new(self):
        book = small_book()
        book.table("g")
        for act in (book.known_names, book.compiled_names, lambda: book.uses("h"),
                    lambda: book.users("f"), lambda: book.known_names(kind="word")):
            first = act()
            again = list(first)
            self.assertIs(type(first), list)
            first.append("more")
            self.assertEqual(act(), again)


class Facts(BookTest):
    def test_facts(self):
        book = small_book()
        book.apply(("word", "a", "c"))
        self.assertEqual(list(book.facts()), [("f", "a"), ("f", "ww"), ("g", "w"), ("h", "a"),
                                              ("h", "w"), ("h", "ww")])
        self.assertEqual(book.compilations, 3)

    def test_it_is_a_generator(self):
        self.assertTrue(inspect.isgeneratorfunction(Book.facts))
        self.assertEqual(next(small_book().facts()), ("f", "ww"))

    def test_without_words_or_formulas(self):
        self.assertEqual(list(Book().facts()), [])
        self.assertEqual(list(book_of(("word", "w", "a")).facts()), [])
        book = book_of(("formula", "f", "some x a(x)"))
        self.assertEqual(list(book.facts()), [])
        self.assertEqual(book.compilations, 0)

    def test_each_fact_holds(self):
        book = small_book()
        found = list(book.facts())
        for formula in book.known_names(kind="formula"):
            for word in book.known_names(kind="word"):
                self.assertIs((formula, word) in found, book.holds(formula, word))


class Kept(BookTest):
    """[13]: when formulas are compiled, and how long their tables are kept."""

    def check(self, book, names, compilations):
        self.assertEqual((book.compiled_names(), book.compilations), (names, compilations))

    def test_when_they_are_needed(self):
        book = small_book()
        self.check(book, [], 0)
        book.table("f")
        self.check(book, ["f"], 1)
        book.holds("g", "w")
        self.check(book, ["f", "g"], 2)
        book.value("h", "w")
        self.check(book, ["f", "g", "h"], 3)
        book.holds("h", "ww")
        list(book.facts())
        self.check(book, ["f", "g", "h"], 3)

    def test_those_that_it_uses_first(self):
        book = small_book()
        book.table("h")
        self.check(book, ["f", "g", "h"], 3)
        book = small_book()
        book.table("g")
        self.check(book, ["f", "g"], 2)
        book.apply(("formula", "k", "({h} and {g})"))
        book.table("k")
        self.check(book, ["f", "g", "h", "k"], 4)

    def test_steps_that_change_nothing_of_it(self):
        book = small_book()
        book.table("h")
        book.apply()
        book.apply(("replace", "w", "c"), ("word", "v", "{w}"), ("drop", "ww"))
        book.apply(("formula", "k", "some x b(x)"))
        book.apply(("rename", "k", "m"), ("rename", "w", "u"))
        self.check(book, ["f", "g", "h"], 3)
        book.undo()
        book.undo()
        book.redo()
        self.check(book, ["f", "g", "h"], 3)

    def test_another_formula(self):
        book = small_book()
        book.table("h")
        book.apply(("replace", "g", "some x b(x)"))
        self.check(book, ["f"], 3)
        book.table("h")
        self.check(book, ["f", "g", "h"], 5)
        book.undo()
        self.check(book, ["f"], 5)
        book.redo()
        self.check(book, ["f"], 5)
        book.apply(("replace", "f", "some x a(x)"))
        self.check(book, [], 5)

    def test_a_formula_that_is_used_but_not_directly(self):
        book = small_book()
        book.apply(("replace", "h", "not {g}"))
        book.table("h")
        book.apply(("replace", "f", "some x b(x)"))
        self.check(book, [], 3)

    def test_equal_formulas(self):
        book = small_book()
        book.table("h")
        book.apply(("replace", "f", "some   x c( x )"))
        self.check(book, ["f", "g", "h"], 3)
        # What means the same is another formula.
        book.apply(("replace", "f", "some y c(y)"))
        self.check(book, [], 3)

    def test_only_the_end_of_a_step_counts(self):
        book = small_book()
        book.table("h")
        book.apply(("replace", "f", "some x b(x)"), ("replace", "f", "some x c(x)"))
        book.apply(("rename", "f", "oak"), ("rename", "oak", "f"))
        book.apply(("drop", "h"), ("formula", "h", "({g} or {f})"))
        self.check(book, ["f", "g", "h"], 3)
        book.apply(("drop", "h"))
        self.check(book, ["f", "g"], 3)
        book.undo()
        self.check(book, ["f", "g"], 3)

    def test_renaming(self):
        book = small_book()
        book.table("h")
        book.apply(("rename", "h", "oak"))
        self.check(book, ["f", "g"], 3)
        book.apply(("rename", "f", "elm"))
        self.check(book, [], 3)
        book.undo()
        book.undo()
        self.check(book, [], 3)
        # Names change places: each has the other formula.
        book = book_of(("formula", "a", "some x a(x)"), ("formula", "b", "some x b(x)"))
        book.table("a")
        book.table("b")
        book.apply(("rename", "a", "c"), ("rename", "b", "a"), ("rename", "c", "b"))
        self.check(book, [], 2)
        self.assertEqual(book.text("a"), "some x b(x)")

    def test_a_step_away_and_back(self):
        book = small_book()
        book.table("f")
        book.apply(("replace", "f", "some x b(x)"))
        book.apply(("replace", "f", "some x c(x)"))
        self.check(book, [], 1)
        book.table("f")
        book.undo()
        book.undo()
        self.check(book, [], 2)
        book.table("f")
        self.check(book, ["f"], 3)

    def test_undone_names(self):
        book = Book()
        book.apply(("formula", "f", "some x a(x)"))
        book.table("f")
        book.undo()
        self.check(book, [], 1)
        book.redo()
        self.check(book, [], 1)
        book.table("f")
        self.check(book, ["f"], 2)

    def test_refused_questions_and_calls_compile_nothing(self):
        book = small_book(WatchBook)
        for act in (book.holds, book.value, book.watch):
            for formula, word in (("h", "nil"), ("h", "f"), ("nil", "w"), ("w", "w")):
                self.assertRaises((UnknownName, WrongKind), act, formula, word)
        self.assertRaises(NameInUse, book.apply, ("replace", "h", "{g}"), ("drop", "g"))
        self.check(book, [], 0)
        book.table("h")
        self.assertRaises(NameInUse, book.apply, ("replace", "h", "{g}"), ("drop", "g"))
        self.check(book, ["f", "g", "h"], 3)

    def test_other_questions_compile_nothing(self):
        book = small_book()
        book.text("h"), book.uses("h"), book.users("f"), book.kind_of("h"), book.known_names()
        len(book), repr(book), book == small_book(), "h" in book, book.twin(), book.history()
        book.set_room(3)
        self.check(book, [], 0)


class Twins(BookTest):
    def test_all_is_the_same(self):
        book = small_book()
        book.apply(("drop", "h"))
        book.apply(("word", "v", "c"))
        book.undo()
        book.table("g")
        book.set_room(6)
        twin = book.twin()
        self.assertIs(type(twin), Book)
        self.assertEqual(state_of(twin), state_of(book))
        self.assertEqual(state_of(twin)[2:], ((2, 1), 6, ["f", "g"], 2))
        self.assertEqual(twin, book)
        twin.redo()
        self.assertEqual(twin.text("v"), "c")
        twin.undo()
        twin.undo()
        twin.undo()
        self.assertEqual(len(twin), 0)

    def test_independent(self):
        for kind in (Book, WatchBook):
            book = small_book(kind)
            twin = book.twin()
            second = twin.twin()
            before = state_of(book)
            twin.apply(("drop", "h"), ("replace", "w", "c"))
            twin.table("g")
            twin.set_room(3)
            self.assertEqual(state_of(book), before)
            self.assertEqual(state_of(second), before)
            second.undo()
            self.assertEqual(state_of(book), before)
            book.table("f")
            book.apply(("word", "v", "a"))
            self.assertEqual((twin.known_names(), twin.compiled_names(), twin.room),
                             (["f", "g", "w", "ww"], ["f", "g"], 3))
            self.assertEqual((len(second), second.history(), second.compilations), (0, (0, 1), 0))

    def test_kept_tables(self):
        book = small_book()
        book.table("h")
        twin = book.twin()
        twin.apply(("replace", "f", "some x b(x)"))
        self.assertEqual((twin.compiled_names(), book.compiled_names()), ([], ["f", "g", "h"]))
        self.assertEqual(book.table("h"), small_book().table("h"))
        self.assertEqual((twin.compilations, book.compilations), (3, 3))

    def test_a_twin_of_a_watch_book(self):
        book = small_book(WatchBook)
        book.watch("g", "w")
        book.watch("f", "w")
        book.news()
        book.watch("f", "ww")
        self.assertRaises(InvalidCommand, book.apply, ())
        twin = book.twin()
        self.assertIs(type(twin), WatchBook)
        self.assertEqual(twin.refused, 1)
        second = twin.twin()
        self.assertIs(type(second), WatchBook)
        self.assertEqual(twin.news(), [("f", "ww", True)])
        self.assertEqual(twin.news(), [])
        twin.watch("h", "w")
        self.assertRaises(InvalidCommand, twin.apply, ())
        self.assertEqual((book.refused, twin.refused, second.refused), (1, 2, 1))
        self.assertEqual(book.news(), [("f", "ww", True)])
        self.assertEqual(second.news(), [("f", "ww", True)])
        self.assertEqual(twin.news(), [("h", "w", True)])


class Equality(BookTest):
    def test_equal_books(self):
        for one in (Book, WatchBook):
            for other in (Book, WatchBook):
                self.assertTrue(one() == other())
                self.assertTrue(small_book(one) == small_book(other))
                self.assertFalse(small_book(one) != small_book(other))
                self.assertFalse(small_book(one) == other())
                self.assertTrue(small_book(one) != other())

    def test_what_counts(self):
        book = small_book()
        same = Book()
        same.apply(("formula", "f", "some x a(x)"), ("word", "w", "(a b)>".replace(" ", "")))
        same.set_room(7)
        same.apply(("replace", "f", "some x  c(x)"), ("word", "ww", "({w})c{w}"))
        same.apply(("formula", "g", "(not {f} and some x a(x))"))
        same.apply(("formula", "h", "({g} or {f})"))
        same.table("h")
        self.assertEqual(book, same)
        for command in (("replace", "f", "some y c(y)"), ("replace", "w", "a(ba)>"),
                        ("drop", "h"), ("rename", "h", "k"), ("word", "v", "a"),
                        ("replace", "ww", "{w}{w}")):
            same.apply(command)
            self.assertNotEqual(book, same)
            same.undo()
            self.assertEqual(book, same)

    def test_kinds_count(self):
        self.assertNotEqual(book_of(("word", "f", "a")), book_of(("formula", "f", "some x a(x)")))

    def test_nothing_else(self):
        for other in (None, 0, "Book(0 names)", {}, [], (), Book):
            self.assertFalse(Book() == other)
            self.assertTrue(Book() != other)


class Watching(BookTest):
    def test_refused(self):
        book = WatchBook()
        self.assertEqual(book.refused, 0)
        book.apply(("word", "w", "a"))
        for many, command in enumerate((("drop", "nil"), (), ("word", "w", "a"), ("word", "v", "?"),
                                        ("word", "v", "a" * 201), ("rename", "w", "w"),
                                        ("replace", "w", "{w}"), ("formula", "f", "a(x)"))):
            self.assertEqual(book.refused, many)
            self.assertRaises((errors.ScatterError, errors.Missing), book.apply, command)
            self.assertEqual(book.refused, many + 1)
        self.assertEqual(book.history(), (1, 0))
        book.undo()
        book.redo()
        self.assertRaises(EmptyHistory, book.redo)
        self.assertRaises(UnknownName, book.text, "nil")
        self.assertRaises(LimitReached, book.set_room, 0)
        self.assertEqual(book.refused, 8)

    def test_it_does_the_same(self):
        book, other = small_book(WatchBook), small_book()
        self.assertEqual(state_of(book), state_of(other))
        self.assertIsInstance(book, Book)
        self.assertIsNone(book.apply(("drop", "h")))
        self.assertNotEqual(book, other)
        self.refuse(book, NameInUse, ("name", "g"), ("drop", "f"))

    def test_news(self):
        book = small_book(WatchBook)
        self.assertEqual(book.news(), [])
        book.watch("g", "w")
        book.watch("f", "ww")
        book.watch("f", "w")
        self.assertEqual(book.compilations, 0)
        self.assertEqual(book.news(), [("f", "w", False), ("f", "ww", True), ("g", "w", True)])
        self.assertEqual(book.news(), [])
        self.assertEqual(book.compilations, 2)
        book.apply(("replace", "w", "c"))
        self.assertEqual(book.news(), [("f", "w", True), ("g", "w", False)])
        book.undo()
        self.assertEqual(book.news(), [("f", "w", False), ("g", "w", True)])
        book.redo()
        book.undo()
        self.assertEqual(book.news(), [])

    def test_unknown(self):
        book = small_book(WatchBook)
        book.watch("h", "ww")
        book.watch("f", "w")
        book.news()
        book.apply(("drop", "h"))
        self.assertEqual(book.news(), [("h", "ww", "unknown")])
        self.assertEqual(book.news(), [])
        book.apply(("rename", "w", "u"))
        self.assertEqual(book.news(), [("f", "w", "unknown")])
        book.undo()
        book.undo()
        self.assertEqual(book.news(), [("f", "w", False), ("h", "ww", True)])
        book.apply(("drop", "ww"), ("formula", "ww", "{f}"))
        self.assertEqual(book.news(), [("h", "ww", "unknown")])
        book.apply(("rename", "h", "k"), ("drop", "ww"), ("word", "ww", "b"), ("word", "h", "a"))
        self.assertEqual(book.news(), [])
        book.apply(("drop", "h"), ("rename", "k", "h"))
        self.assertEqual(book.news(), [("h", "ww", False)])

    def test_unknown_at_first(self):
        book = small_book(WatchBook)
        book.watch("h", "w")
        book.undo()
        self.assertEqual(book.news(), [("h", "w", "unknown")])
        self.assertEqual(book.compilations, 0)
        book.redo()
        self.assertEqual(book.news(), [("h", "w", True)])

    def test_answers_watched_anew(self):
        book = small_book(WatchBook)
        book.watch("f", "w")
        book.watch("f", "w")
        self.assertEqual(book.news(), [("f", "w", False)])
        book.watch("f", "w")
        self.assertEqual(book.news(), [("f", "w", False)])
        self.assertEqual(book.news(), [])

    def test_watches_stay(self):
        book = WatchBook()
        book.apply(("word", "w", "a"), ("formula", "f", "some x a(x)"))
        book.watch("f", "w")
        book.undo()
        book.apply(("formula", "w", "some x b(x)"))
        self.assertEqual(book.news(), [("f", "w", "unknown")])
        book.undo()
        book.apply(("word", "w", "b"), ("formula", "f", "some x b(x)"))
        self.assertEqual(book.news(), [("f", "w", True)])

    def test_news_is_a_new_list(self):
        book = small_book(WatchBook)
        book.watch("f", "w")
        found = book.news()
        found.append("more")
        self.assertEqual(book.news(), [])
        self.assertIs(type(found[0]), tuple)

    def test_errors_formula_first(self):
        book = small_book(WatchBook)
        for formula, word, error, name in (
                ("nil", "nul", UnknownName, "nil"), ("w", "nul", WrongKind, "w"),
                ("f", "nul", UnknownName, "nul"), ("f", "f", WrongKind, "f")):
            with self.assertRaises(error) as caught:
                book.watch(formula, word)
            self.assertEqual(caught.exception.name, name)
        self.assertEqual((book.news(), book.refused), ([], 0))


class ByName(BookTest):
    def test_by_name(self):
        book = small_book(WatchBook)
        self.assertIsNone(book.set_room(most=9))
        self.assertEqual(book.kind_of(name="w"), "word")
        self.assertEqual(book.text(name="w"), "(ab)>")
        self.assertEqual(book.uses(name="ww"), ["w"])
        self.assertEqual(book.users(name="w"), ["ww"])
        self.assertEqual(book.table(name="f"), compiled(parse_formula("some x c(x)")))
        self.assertIs(book.holds(word="w", formula="f"), False)
        self.assertEqual(book.value(word="w", formula="f"), 0)
        self.assertIsNone(book.watch(word="w", formula="f"))
        self.assertEqual(book.news(), [("f", "w", False)])
        self.assertIsNone(book.undo())
        self.assertIsNone(book.redo())


if __name__ == "__main__":
    unittest.main()
