"""Formulas as trees: their free variables, their sizes, and the names in them."""

PLACES = "xyz"
SETS = "XYZ"
QUANTIFIERS = ("some", "all")


def free_variables(formula):
    """Return the list of the free variables, ascending by character, each once."""
    kind = formula[0]
    if kind == "letter":
        return [formula[2]]
    if kind in ("before", "next", "same", "in"):
        return sorted({formula[1], formula[2]})
    chosen = formula[1] if kind in QUANTIFIERS else None
    inner = [sign for part in inner_formulas(formula) for sign in free_variables(part)]
    return sorted({sign for sign in inner if sign != chosen})


def formula_size(formula):
    """Return the number of nodes."""
    return 1 + sum([formula_size(part) for part in inner_formulas(formula)])


def nesting(formula):
    """Return how many quantifiers stand within one another at most."""
    inner = max([nesting(part) for part in inner_formulas(formula)], default=0)
    return inner + 1 if formula[0] in QUANTIFIERS else inner


def formula_names(formula):
    """Return the list of the names of formulas in a formula, ascending, each once."""
    if formula[0] == "named":
        return [formula[1]]
    return sorted({name for part in inner_formulas(formula) for name in formula_names(part)})


def inner_formulas(formula):
    """Return the tuple of the formulas directly within a formula, from left to right."""
    kind = formula[0]
    if kind in ("not", "and", "or"):
        return formula[1:]
    if kind in QUANTIFIERS:
        return (formula[2],)
    return ()
