"""The text of a word."""

from scatterwords.errors import InvalidText, TooLarge
from scatterwords.words import EMPTY, LETTERS, MAX_COPIES, depth, tree_levels

MAX_TEXT = 200
MAX_OPEN = 8
MAX_DEPTH = 12
MAX_NAME = 8

SIGNS = {"right": ">", "left": "<"}
KINDS = {">": "right", "<": "left"}


def parse_word(text):
    """Return the word of a text."""
    if len(text) > MAX_TEXT:
        raise TooLarge(MAX_TEXT)
    # The parts that are read so far: those outside of all parentheses, then those in
    # each parenthesis that is open, the innermost one last.
    groups = [[]]
    at = 0
    while at < len(text):
        at = _read(text, at, groups)
    if len(groups) > 1:
        raise InvalidText(len(text))
    word = _grouped(groups[0])
    if depth(word) > MAX_DEPTH:
        raise TooLarge(MAX_DEPTH)
    return word


def format_word(word):
    """Return the text of a word."""
    kind = word[0]
    if kind == "empty":
        return "()"
    if kind == "letter":
        return word[1]
    if kind == "name":
        return "{" + word[1] + "}"
    if kind == "join":
        return "".join([_format_inner(part) for part in word[1]])
    if kind == "times":
        return f"{_format_inner(word[1])}^{word[2]}"
    return _format_inner(word[1]) + SIGNS[kind]


def names_in(word):
    """Return the list of the names in a word, ascending, each once."""
    nodes = [node for level in tree_levels(word) for node in level]
    return sorted({node[1] for node in nodes if node[0] == "name"})


def _format_inner(word):
    """Return the text of a word that is a part of a word or has a suffix."""
    if word[0] == "join":
        return f"({format_word(word)})"
    return format_word(word)


def _grouped(parts):
    """Return the word of the parts that stand side by side."""
    # Unlike in joined, an empty word among them is a part: it has a text, too.
    if not parts:
        return EMPTY
    if len(parts) == 1:
        return parts[0]
    return ("join", tuple(parts))


def _read(text, at, groups):
    """Read what begins at a position into the groups, and return the position behind it."""
    sign = text[at]
    if sign == "(":
        if len(groups) > MAX_OPEN:
            raise TooLarge(MAX_OPEN)
        groups.append([])
        return at + 1
    if sign == ")" and len(groups) > 1:
        parts = groups.pop()
        groups[-1].append(_grouped(parts))
        return at + 1
    if sign in ("^", ">", "<") and groups[-1]:
        return _read_suffix(text, at, groups[-1])
    return _read_part(text, at, groups[-1])


def _read_suffix(text, at, parts):
    """Put the suffix at a position on the last part, and return the position behind it."""
    word = parts.pop()
    if text[at] != "^":
        parts.append((KINDS[text[at]], word))
        return at + 1
    end = _numeral_end(text, at + 1)
    parts.append(("times", word, int(text[at + 1:end])))
    return end


def _read_part(text, at, parts):
    """Read the letter or the name at a position, and return the position behind it."""
    if text[at] in LETTERS:
        parts.append(("letter", text[at]))
        return at + 1
    if text[at] == "{":
        end = _name_end(text, at + 1)
        parts.append(("name", text[at + 1:end]))
        return end + 1
    raise InvalidText(at)


def _numeral_end(text, start):
    """Return the position behind the numeral that begins at a position."""
    end = start
    while end < len(text) and "0" <= text[end] <= "9":
        end += 1
    digits = text[start:end]
    if digits == "" or (digits[0] == "0" and digits != "0") or int(digits) > MAX_COPIES:
        raise InvalidText(start)
    return end


def _name_end(text, start):
    """Return the position behind the name that begins at a position, that of its brace."""
    end = start
    while end < len(text) and "a" <= text[end] <= "z" and end < start + MAX_NAME:
        end += 1
    if end == start or end == len(text) or text[end] != "}":
        raise InvalidText(end)
    return end
