"""The text of a formula."""

from scatterwords.errors import InvalidText, TooLarge
from scatterwords.formulas import PLACES, QUANTIFIERS, SETS, formula_size, nesting
from scatterwords.words import LETTERS
from scatterwords.wordtext import MAX_NAME

MAX_CHARACTERS = 300
MAX_NODES = 40
MAX_NESTING = 3

LOWERCASE = "abcdefghijklmnopqrstuvwxyz"
CHARACTERS = " (){}<=XYZabcdefghijklmnopqrstuvwxyz"

SIGNS = {"before": "<", "next": "next", "same": "=", "in": "in"}
KINDS = {"<": "before", "next": "next", "=": "same", "in": "in"}

# What follows the last token: it has no characters, but a position, the end of the text.
END = ""


def parse_formula(text):
    """Return the formula of a text."""
    if len(text) > MAX_CHARACTERS:
        raise TooLarge(MAX_CHARACTERS)
    for at, sign in enumerate(text):
        if sign not in CHARACTERS:
            raise InvalidText(at)
    tokens = _tokens(text)
    # The next token stands last, so that it can be popped.
    tokens.reverse()
    formula = _read_formula(tokens)
    _take(tokens, [END])
    if formula_size(formula) > MAX_NODES:
        raise TooLarge(MAX_NODES)
    if nesting(formula) > MAX_NESTING:
        raise TooLarge(MAX_NESTING)
    return formula


def format_formula(formula):
    """Return the text of a formula."""
    kind = formula[0]
    if kind == "letter":
        return f"{formula[1]}({formula[2]})"
    if kind == "named":
        return "{" + formula[1] + "}"
    if kind == "not":
        return f"not {format_formula(formula[1])}"
    if kind in ("and", "or"):
        return f"({format_formula(formula[1])} {kind} {format_formula(formula[2])})"
    if kind in QUANTIFIERS:
        return f"{kind} {formula[1]} {format_formula(formula[2])}"
    return f"{formula[1]} {SIGNS[kind]} {formula[2]}"


def _tokens(text):
    """Return the list of the pairs of a position and the token there, with the end."""
    found = []
    at = 0
    while at < len(text):
        end = _token_end(text, at)
        if text[at] != " ":
            found.append((at, text[at:end]))
        at = end
    found.append((len(text), END))
    return found


def _token_end(text, start):
    """Return the position behind the token, or the space, that begins at a position."""
    end = start + 1
    if text[start] in LOWERCASE or text[start] in SETS:
        while end < len(text) and text[end] in LOWERCASE:
            end += 1
    return end


def _take(tokens, expected):
    """Remove the next token, which must be one of the expected ones, and return it."""
    position, token = tokens.pop()
    if token not in expected:
        raise InvalidText(position)
    return token


def _take_name(tokens):
    """Remove the next token, which must be a name, and return it."""
    position, token = tokens.pop()
    if not token.islower() or len(token) > MAX_NAME:
        raise InvalidText(position)
    return token


def _read_formula(tokens):
    """Read the shortest formula that the next tokens are."""
    # Not by recursion: a text can begin with 300 parentheses.
    begun = []
    formula = None
    while formula is None or begun:
        if formula is None:
            formula = _begin(tokens, begun)
        else:
            formula = _go_on(tokens, begun, formula)
    return formula


def _begin(tokens, begun):
    """Read a formula without formulas in it, or else what stands before the first one in it.

    In the second case the result is None, and what was read is put on the list of the
    formulas that are begun: the first items of their trees, or a parenthesis.
    """
    token = _take(tokens, [*LETTERS, *PLACES, *QUANTIFIERS, "not", "(", "{"])
    if token in list(LETTERS):
        _take(tokens, ["("])
        place = _take(tokens, list(PLACES))
        _take(tokens, [")"])
        return ("letter", token, place)
    if token in list(PLACES):
        return _read_relation(tokens, token)
    if token == "{":
        name = _take_name(tokens)
        _take(tokens, ["}"])
        return ("named", name)
    if token in QUANTIFIERS:
        begun.append((token, _take(tokens, [*PLACES, *SETS])))
    else:
        begun.append((token,))
    return None


def _read_relation(tokens, place):
    """Read the rest of a formula that begins with a place variable."""
    sign = _take(tokens, list(KINDS))
    other = _take(tokens, list(SETS) if sign == "in" else list(PLACES))
    return (KINDS[sign], place, other)


def _go_on(tokens, begun, formula):
    """Read on behind the next formula within the one that was begun last.

    The result is the larger formula if it is complete, and None if another formula within
    it is still to be read.
    """
    beginning = begun.pop()
    if beginning[0] == "(":
        begun.append((_take(tokens, ["and", "or"]), formula))
        return None
    if beginning[0] in ("and", "or"):
        _take(tokens, [")"])
    return (*beginning, formula)
