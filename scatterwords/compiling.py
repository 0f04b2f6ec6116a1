"""From formulas to algebras."""

from scatterwords.algebras import least_algebra, relabelled
from scatterwords.formulas import PLACES, QUANTIFIERS
from scatterwords.masks import BITS
from scatterwords.sources import AtomSource, JointSource, PlaceSource, SetSource


def algebra_of(formula, known):
    """Return the algebra of a formula; the labels say whether the formula is true.

    known has the algebras of the formulas that have names.
    """
    kind = formula[0]
    if kind == "named":
        return known[formula[1]]
    if kind == "not":
        return _opposite(algebra_of(formula[1], known))
    if kind in ("and", "or"):
        algebras = [algebra_of(formula[1], known), algebra_of(formula[2], known)]
        return least_algebra(JointSource(algebras, all_true if kind == "and" else any_true))
    if kind in QUANTIFIERS:
        inner = algebra_of(formula[2], known)
        if kind == "some":
            return _chosen(inner, formula[1])
        # What is true for all is not false for some.
        return _opposite(_chosen(_opposite(inner), formula[1]))
    return least_algebra(AtomSource(formula))


def all_true(labels):
    """Return whether all labels are true."""
    return False not in labels


def any_true(labels):
    """Return whether a label is true."""
    return True in labels


def _opposite(algebra):
    """Return the algebra in which true and false are exchanged."""
    return relabelled(algebra, [None if label is None else not label for label in algebra.labels])


def _chosen(algebra, variable):
    """Return the algebra of what is true for some place or set."""
    bit = BITS[variable]
    if not algebra.variables & bit:
        algebra = least_algebra(JointSource([algebra], any_true, bit))
    if variable in PLACES:
        return least_algebra(PlaceSource(algebra, bit))
    return least_algebra(SetSource(algebra, bit))
