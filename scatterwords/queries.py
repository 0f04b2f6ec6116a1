"""Queries: at which places of a word a formula holds."""

from scatterwords.algebras import least_algebra
from scatterwords.compiling import algebra_of, any_true
from scatterwords.errors import FreeVariables, UnknownName
from scatterwords.formulas import formula_names, free_variables
from scatterwords.markers import Marker
from scatterwords.masks import BITS
from scatterwords.places import cut
from scatterwords.scans import ENDLESS, Scan
from scatterwords.sources import JointSource
from scatterwords.weaving import rewritten


class Query:
    """A formula whose only free variable may be x."""

    def __init__(self, formula):
        check_query(formula)
        self._marker = Marker(query_algebra(formula))

    def holds(self, word, address):
        """Return whether the formula holds at a place."""
        ahead, letter, behind = cut(word, address)
        return self._marker.label_between(ahead, letter, behind)

    def holds_between(self, ahead, letter, behind):
        """Return whether the formula holds at a place with a letter between two words."""
        return self._marker.label_between(ahead, letter, behind)

    def total(self, word):
        """Return at how many places the formula holds, or None for endlessly many."""
        scan = Scan(self._marker, word)
        return scan.count_hits(scan.top, 0, 0)

    def first(self, word):
        """Return ("place", address) with the first place, ("none",) or ("endless",)."""
        return self._end(word, True)

    def last(self, word):
        """Return ("place", address) with the last place, ("none",) or ("endless",)."""
        return self._end(word, False)

    def marked(self, word):
        """Return the word with the letters at which the formula holds in uppercase."""
        return rewritten(Scan(self._marker, word), _marked_letter)

    def _end(self, word, is_first):
        scan = Scan(self._marker, word)
        hit = scan.find_hit(scan.top, 0, 0, is_first)
        if hit is None:
            return ("none",)
        return ("endless",) if hit == ENDLESS else ("place", hit)


def check_query(formula):
    """Raise an error if a formula cannot be that of a query."""
    variables = [sign for sign in free_variables(formula) if sign != "x"]
    if variables:
        raise FreeVariables(variables)
    names = formula_names(formula)
    if names:
        raise UnknownName(names[0])


def query_algebra(formula):
    """Return the algebra of a formula with the variable x, also if x is not free in it."""
    return least_algebra(JointSource([algebra_of(formula, {})], any_true, BITS["x"]))


def _marked_letter(letter, label):
    """Return a letter, in uppercase if the label of its place is True."""
    return letter.upper() if label else letter
