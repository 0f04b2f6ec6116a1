"""A plain reading of point 6 for the tests, and many formulas and words to try it on."""

import itertools
import random

from helpers import A, B, C, EMPTY, join, left, right, some_places, times
from scatterwords.formulatext import parse_formula

FIRST = "not some y y < x"
LAST = "not some y x < y"
SECOND = "(some y y < x and not some y some z (y < z and z < x))"
BEHIND = "some y (y next x and {}(y))"
BEFORE = "some y (x next y and {}(y))"
NEAR_START = "not some y some z (y < z and z < x)"
NEAR_END = "not some y some z (x < y and y < z)"
# x is the first place, or the third one, or the fifth one ..
ODD = ("some X (x in X and all y ((not y in X or not some z (z next y and z in X)) and "
       "(y in X or some z (z next y and z in X))))")
ODD_FROM_RIGHT = ODD.replace("z next y", "y next z")
# Before x, back to the last place without a place next to it, there is an odd number of b.
CHANGES = "some z (z next y and ((b(z) and not z in X) or (not b(z) and z in X)))"
ODD_B = f"some X (x in X and all y ((not y in X or {CHANGES}) and (y in X or not {CHANGES})))"

# Queries that do different things along many copies.
QUERIES = (
    "a(x)", "x = x", "x < x", FIRST, LAST, SECOND, NEAR_START, NEAR_END, ODD, ODD_FROM_RIGHT,
    ODD_B, BEHIND.format("a"), BEHIND.format("b"), BEHIND.format("c"), BEFORE.format("b"),
    f"(c(x) or {BEFORE.format('c')})", "not some y y next x", "not some y x next y",
    f"({ODD} and some y y < x)", f"({ODD_FROM_RIGHT} and some y x < y)",
    f"({ODD} and {NEAR_END})", f"({ODD_FROM_RIGHT} or {NEAR_START})",
    f"({NEAR_START} and {NEAR_END})", f"({FIRST} or ({SECOND} and b(x)))",
    "some y (y < x and b(y))", "some y (x < y and c(y))", "all y (y < x or (x = y or b(y)))",
    "some y some z (y next z and (z next x and (b(y) and c(z))))", "some x c(x)",
    "(a(x) and not some y (y < x and b(y)))", "(b(x) and all y (x < y or (y = x or a(y))))",
    "some y (y < x and all z (z < y or (z = y or (z = x or x < z))))",
)
# Sentences that tell the order of letters, and what ends.
SENTENCES = (
    "some x a(x)", "all x x = x", "all x (b(x) or some y x next y)",
    f"some x (a(x) and {FIRST})", f"some x (a(x) and {LAST})", f"some x {LAST}",
    "some x some y ((x next y and not some z y < z) and (b(x) and a(y)))",
    "some x some y ((x next y and not some z z < x) and (b(x) and a(y)))",
    "some x some y (x next y and (a(x) and b(y)))",
    "some x some y (x next y and (c(x) and b(y)))",
    "some x some y some z ((x next y and y next z) and (a(x) and (b(y) and c(z))))",
    "all x some y (x < y and c(y))", "some X (some x x in X and all x (not x in X or (b(x) and "
    "some y (y < x and y in X))))",
    "all X (not some x x in X or some x (x in X and all y (not y in X or (x = y or x < y))))",
    "some X (all x all y (not x next y or ((x in X and not y in X) or (not x in X and y in X))) "
    "and all x ((x in X or some y y < x) and (not x in X or some y x < y)))",
)


def is_true(formula, letters, chosen=None):
    """Return whether a formula is true for a text of letters, by trying all places and sets."""
    chosen = chosen or {}
    kind, rest = formula[0], formula[1:]
    if kind == "letter":
        return letters[chosen[rest[1]]] == rest[0]
    if kind == "before":
        return chosen[rest[0]] < chosen[rest[1]]
    if kind == "next":
        return chosen[rest[0]] + 1 == chosen[rest[1]]
    if kind == "same":
        return chosen[rest[0]] == chosen[rest[1]]
    if kind == "in":
        return chosen[rest[0]] in chosen[rest[1]]
    if kind == "not":
        return not is_true(rest[0], letters, chosen)
    if kind in ("and", "or"):
        answers = [is_true(part, letters, chosen) for part in rest]
        return all(answers) if kind == "and" else any(answers)
    places = range(len(letters))
    if rest[0] in "xyz":
        choices = places
    else:
        choices = [some for size in range(len(letters) + 1)
                   for some in itertools.combinations(places, size)]
    answers = (is_true(rest[1], letters, {**chosen, rest[0]: choice}) for choice in choices)
    return any(answers) if kind == "some" else all(answers)


def is_true_in_endless(formula, word, bounds):
    """Return whether a formula without set variables is true for a word with endless copies.

    Of endless copies only the first ones are tried, more of them for each quantifier within
    another one. With three quantifiers, what is two copies further is alike.
    """
    places = some_places(word, max(bounds) + 1)
    numbers = {address: at for at, (address, _) in enumerate(places)}
    letters = [letter for _, letter in places]
    ranges = [[numbers[address] for address, _ in some_places(word, bound)] for bound in bounds]

    def answer(part, chosen, level):
        kind, rest = part[0], part[1:]
        if kind == "not":
            return not answer(rest[0], chosen, level)
        if kind in ("and", "or"):
            answers = (answer(inner, chosen, level) for inner in rest)
            return all(answers) if kind == "and" else any(answers)
        if kind in ("some", "all"):
            answers = (answer(rest[1], {**chosen, rest[0]: choice}, level + 1)
                       for choice in ranges[level])
            return any(answers) if kind == "some" else all(answers)
        return is_true(part, letters, chosen)

    return answer(formula, {}, 0)


def all_letters(size):
    """Return all texts of letters with at most so many letters."""
    return ["".join(letters) for many in range(size + 1)
            for letters in itertools.product("abc", repeat=many)]


def values_as_found(table):
    """Return the list of the values of a table in the order in which point 8 finds them."""
    found = []

    def find(value):
        if value not in found:
            found.append(value)

    find(table.value(EMPTY))
    for sign in "abc":
        find(table.letter(sign))
    for value in found:
        find(table.right(value))
        find(table.left(value))
        for other in range(value + 1):
            find(table.product(value, other))
            find(table.product(other, value))
    return found


def count_of_different_values(table):
    """Return how many values of a table something around them tells apart."""
    values = range(table.size)
    classes = [table.accepts(value) for value in values]
    many = 0
    while many < len(set(classes)):
        many = len(set(classes))
        rows = [(classes[value], classes[table.right(value)], classes[table.left(value)],
                 *[classes[table.product(value, other)] for other in values],
                 *[classes[table.product(other, value)] for other in values])
                for value in values]
        classes = [rows.index(row) for row in rows]
    return many


class Maker:
    """Makes formulas and words, the same ones for the same number."""

    def __init__(self, number):
        self.random = random.Random(number)

    def atom(self, variables):
        """Return a formula without formulas in it, or the opposite of one."""
        places = [sign for sign in variables if sign in "xyz"]
        sets = [sign for sign in variables if sign in "XYZ"]
        kinds = ["letter", "letter", "before", "next", "same", *["in", "in", "in"] * len(sets)]
        kind = self.random.choice(kinds)
        one, other = self.random.choice(places), self.random.choice(places)
        if kind == "letter":
            atom = (kind, self.random.choice("abc"), one)
        elif kind == "in":
            atom = (kind, one, self.random.choice(sets))
        else:
            atom = (kind, one, other)
        return ("not", atom) if self.random.random() < 0.3 else atom

    def formula(self, variables, size, quantifiers):
        """Return a formula with about so many atoms, with free variables among some."""
        places = [sign for sign in variables if sign in "xyz"]
        if quantifiers and (not places or self.random.random() < 0.5):
            signs = "xyz" if quantifiers == 1 and not places else "xyzXYZ"
            sign = self.random.choice(signs)
            inner = self.formula(sorted({*variables, sign}), size, quantifiers - 1)
            return (self.random.choice(["some", "all"]), sign, inner)
        if size < 2:
            return self.atom(variables)
        part = self.random.randint(1, size - 1)
        return (self.random.choice(["and", "or"]), self.formula(variables, part, quantifiers),
                self.formula(variables, size - part, quantifiers))

    def sentence(self):
        """Return a formula without free variables and with at most three quantifiers nested."""
        if self.random.random() < 0.4:
            return parse_formula(self.random.choice(SENTENCES))
        return self.formula([], self.random.randint(1, 7), self.random.choice([2, 3, 3]))

    def query(self):
        """Return a formula in which only x may be free."""
        if self.random.random() < 0.5:
            return parse_formula(self.random.choice(QUERIES))
        return self.formula(["x"], self.random.randint(1, 5), self.random.choice([0, 1, 2, 3]))

    def rules(self):
        """Return some rules of a step."""
        return [(self.query(), "".join(self.random.choices("abc", k=self.random.randint(0, 3))))
                for _ in range(self.random.randint(0, 4))]

    def word(self, levels):
        """Return a word with at most so many levels."""
        chance = self.random.random()
        if levels == 1 or chance < 0.2:
            return self.random.choice([A, A, B, B, C, C, EMPTY])
        if chance < 0.55:
            return join(*[self.word(levels - 1) for _ in range(self.random.randint(2, 3))])
        if chance < 0.7:
            return times(self.word(levels - 1), self.random.choice([0, 1, 2, 3, 5, 8]))
        return self.random.choice([right, left])(self.word(levels - 1))
