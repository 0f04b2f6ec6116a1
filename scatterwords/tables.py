"""Tables: which words are accepted, by the least values that decide it."""

from scatterwords.algebras import (NOTHING, Exploration, least_algebra, power_value, recipes_to,
                                   relabelled, renumbered, witness_of, word_value)
from scatterwords.compiling import algebra_of, all_true, any_true
from scatterwords.errors import FreeVariables, InvalidValue, UnknownName
from scatterwords.formulas import formula_names, free_variables
from scatterwords.sources import JointSource
from scatterwords.words import LETTERS


def compiled(formula):
    """Return the table of the words for which a formula is true."""
    variables = free_variables(formula)
    if variables:
        raise FreeVariables(variables)
    names = formula_names(formula)
    if names:
        raise UnknownName(names[0])
    return Table(arranged(algebra_of(formula, {})))


def example(table):
    """Return a word that a table accepts, or None if there is none."""
    for value, label in enumerate(table.algebra.labels):
        if label:
            return table.witness(value)
    return None


def parting(one, other):
    """Return a word that exactly one of two tables accepts, or None if they are equal."""
    pairs = Exploration(JointSource([one.algebra, other.algebra], tuple_of))
    for value, label in enumerate(pairs.labels):
        if label in ((True, False), (False, True)):
            return witness_of(pairs, recipes_to(pairs, value))
    return None


def within(one, other):
    """Return whether each word that the first table accepts is accepted by the other one."""
    pairs = Exploration(JointSource([one.algebra, other.algebra], tuple_of))
    return (True, False) not in pairs.labels


class Table:
    """A least table. Its algebra has no variables, and its values are in the order of [8]."""

    def __init__(self, algebra):
        self.algebra = algebra

    @classmethod
    def constant(cls, answer):
        """Return the table of all words or of no word."""
        return cls(arranged(least_algebra(JointSource([], lambda labels: answer))))

    @property
    def size(self):
        """The number of values."""
        return len(self.algebra.labels)

    def letter(self, sign):
        """Return the value of a letter."""
        return self.algebra.letter_values[(sign, 0)]

    def product(self, one, other):
        """Return the value of a word with one value before a word with the other one."""
        self._check(one)
        self._check(other)
        return self.algebra.rows[one][other]

    def power(self, value, many):
        """Return the value of many copies of a word with a value."""
        self._check(value)
        return power_value(self.algebra, value, many)

    def right(self, value):
        """Return the value of endlessly many copies to the right."""
        self._check(value)
        return self.algebra.endless_right[value]

    def left(self, value):
        """Return the value of endlessly many copies to the left."""
        self._check(value)
        return self.algebra.endless_left[value]

    def accepts(self, value):
        """Return whether the words with a value are accepted."""
        self._check(value)
        return self.algebra.labels[value]

    def value(self, word):
        """Return the value of a word."""
        return word_value(self.algebra, word, {})

    def witness(self, value):
        """Return a word with a value."""
        self._check(value)
        return witness_of(self.algebra, recipes_to(self.algebra, value))

    def opposite(self):
        """Return the table of the words that this table does not accept."""
        return Table(relabelled(self.algebra, [not label for label in self.algebra.labels]))

    def both(self, other):
        """Return the table of the words that both tables accept."""
        return self._joined_with(other, all_true)

    def either(self, other):
        """Return the table of the words that at least one of both tables accepts."""
        return self._joined_with(other, any_true)

    def differing(self, other):
        """Return the table of the words that exactly one of both tables accepts."""
        return self._joined_with(other, lambda labels: labels[0] != labels[1])

    def __contains__(self, word):
        return self.algebra.labels[word_value(self.algebra, word, {})]

    def __eq__(self, other):
        return (isinstance(other, Table) and self.algebra.labels == other.algebra.labels
                and self.algebra.letter_values == other.algebra.letter_values
                and self.algebra.endless_right == other.algebra.endless_right
                and self.algebra.endless_left == other.algebra.endless_left
                and self.algebra.rows == other.algebra.rows)

    def __len__(self):
        return len(self.algebra.labels)

    def __repr__(self):
        return f"Table({len(self.algebra.labels)} values)"

    def _check(self, number):
        """Raise an error if a number is not a value."""
        if not 0 <= number < len(self.algebra.labels):
            raise InvalidValue(number)

    def _joined_with(self, other, label_from):
        """Return the table of the words for which a function of both labels is true."""
        return Table(arranged(least_algebra(
            JointSource([self.algebra, other.algebra], label_from))))


def tuple_of(labels):
    """Return the tuple of some labels."""
    return tuple(labels)


def arranged(algebra):
    """Return an algebra without variables, with its values numbered in the order of [8]."""
    order = _arrangement(algebra)
    names = [NOTHING] * len(algebra.masks)
    for number, value in enumerate(order):
        names[value] = number
    found = renumbered(algebra, order, names)
    found.rows = [[names[algebra.rows[value][other]] for other in order] for value in order]
    return found


def _arrangement(algebra):
    """Return the list of the values of an algebra in the order in which [8] finds them."""
    order = []
    is_found = [False] * len(algebra.masks)
    _put_value(NOTHING, order, is_found)
    for letter in LETTERS:
        _put_value(algebra.letter_values[(letter, 0)], order, is_found)
    size = algebra.masks.count(0)
    at = 0
    while len(order) < size:
        value = order[at]
        _put_value(algebra.endless_right[value], order, is_found)
        _put_value(algebra.endless_left[value], order, is_found)
        earlier = order[:at + 1]
        for other in earlier:
            _put_value(algebra.rows[value][other], order, is_found)
            _put_value(algebra.rows[other][value], order, is_found)
        at += 1
    return order


def _put_value(value, order, is_found):
    """Put a value into the order if it is not in it."""
    if not is_found[value]:
        is_found[value] = True
        order.append(value)
