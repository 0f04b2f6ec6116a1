"""Steps: all places of a word are replaced at once, each by the letters of a rule."""

from scatterwords.algebras import Exploration, least_algebra, recipes_to, witness_of
from scatterwords.changes import ChangeSource
from scatterwords.compiling import algebra_of
from scatterwords.errors import InvalidLetters, TooLarge
from scatterwords.markers import Marker
from scatterwords.masks import BITS
from scatterwords.places import cut
from scatterwords.queries import check_query
from scatterwords.scans import Scan
from scatterwords.sources import JointSource, LetterSource
from scatterwords.tables import Table, arranged, tuple_of
from scatterwords.weaving import rewritten
from scatterwords.words import LETTERS

MAX_RULES = 4
MAX_LETTERS = 3


def run_all(word, *steps):
    """Return the word after all steps, the leftmost one first."""
    for step in steps:
        word = step.run(word)
    return word


def pulled_through(table, *steps):
    """Return the table of the words whose results after all steps the table accepts."""
    for step in reversed(steps):
        table = step.pulled_back(table)
    return table


class Step:
    """Rules by which the places of a word are replaced."""

    def __init__(self, *rules):
        _check_rules(rules)
        self._rules = rules
        self._algebra = _step_algebra(rules)
        self._marker = Marker(self._algebra)

    def run(self, word):
        """Return the word after the step."""
        return rewritten(Scan(self._marker, word), _letters_of_label)

    def letters_at(self, word, address):
        """Return the letters that replace a place of a word."""
        ahead, letter, behind = cut(word, address)
        return self._marker.label_between(ahead, letter, behind)

    def letters_between(self, ahead, letter, behind):
        """Return the letters that replace a place with a letter between two words."""
        return self._marker.label_between(ahead, letter, behind)

    def pulled_back(self, table):
        """Return the table of the words whose results the table accepts."""
        return Table(arranged(least_algebra(ChangeSource(self._marker, table.algebra))))

    def difference(self, other):
        """Return (ahead, letter, behind) where both steps put different letters, or None."""
        pairs = Exploration(JointSource([self._algebra, other._algebra], tuple_of))
        for value, label in enumerate(pairs.labels):
            if label is not None and label[0] != label[1]:
                return _taken_apart(pairs, value)
        return None

    def __len__(self):
        return len(self._rules)

    def __repr__(self):
        return f"Step({len(self._rules)} rules)"


def _check_rules(rules):
    """Raise an error if some rules cannot be those of a step."""
    if len(rules) > MAX_RULES:
        raise TooLarge(MAX_RULES)
    for position, (formula, letters) in enumerate(rules):
        check_query(formula)
        if len(letters) > MAX_LETTERS or [sign for sign in letters if sign not in LETTERS]:
            raise InvalidLetters(position)


def _step_algebra(rules):
    """Return the algebra whose labels are the letters that some rules put at the place x."""
    texts = [rule[1] for rule in rules]
    algebras = [algebra_of(rule[0], {}) for rule in rules]
    algebras.append(least_algebra(LetterSource()))

    def letters_for(labels):
        """Return the letters of the first rule that holds, or else the letter of the place."""
        for letters, is_true in zip(texts, labels):
            if is_true:
                return letters
        return labels[-1]

    return least_algebra(JointSource(algebras, letters_for, BITS["x"]))


def _letters_of_label(letter, label):
    """Return the letters for a place of a word: the label says them."""
    return label


def _taken_apart(algebra, value):
    """Return the word before the place x in a word with a value, its letter, and the rest."""
    recipes = recipes_to(algebra, value)
    at = 0
    while recipes[at][0] != "letter" or recipes[at][2] == 0:
        at += 1
    return (witness_of(algebra, recipes[:at]), recipes[at][1],
            witness_of(algebra, recipes[at + 1:]))
