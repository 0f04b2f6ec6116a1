"""What several tests use: short ways to write trees, and finite words place by place."""

import itertools

A = ("letter", "a")
B = ("letter", "b")
C = ("letter", "c")
EMPTY = ("empty",)
MOST = 10 ** 30


def join(*words):
    return ("join", words)


def times(word, many):
    return ("times", word, many)


def right(word):
    return ("right", word)


def left(word):
    return ("left", word)


def name(text):
    return ("name", text)


def nested(word, levels, kind="right"):
    """Return the word inside so many further levels."""
    for _ in range(levels):
        word = (kind, word)
    return word


def some_words(levels):
    """Return many words with at most so many levels, all kinds of words among them."""
    words = [EMPTY, A, B, ("letter", "C")]
    for _ in range(levels - 1):
        words = words + [
            *[times(word, many) for word in words for many in (0, 1, 2)],
            *[right(word) for word in words],
            *[left(word) for word in words],
            *[join(one, other) for one, other in itertools.product(words[:12], repeat=2)],
            *[join(word, A, word) for word in words[-6:]],
        ]
    return words


def spelled(word):
    """Return the letters of a word without endless copies, one by one."""
    if word[0] == "letter":
        return word[1]
    if word[0] == "join":
        return "".join(spelled(part) for part in word[1])
    if word[0] == "times":
        return spelled(word[1]) * word[2]
    if word[0] in ("right", "left"):
        raise ValueError("endless copies")
    return ""


def is_finite(word):
    """Return whether a word has no endless copies in its tree."""
    if word[0] == "join":
        return all(is_finite(part) for part in word[1])
    if word[0] == "times":
        return is_finite(word[1])
    return word[0] in ("empty", "letter")


def some_places(word, copies):
    """Return the pairs of address and letter of places of a word, in their order.

    Of endless copies only those are taken whose number is less than copies.
    """
    if word[0] == "letter":
        return [((), word[1])]
    if word[0] == "join":
        numbered = list(enumerate(word[1]))
    elif word[0] == "times":
        numbered = [(number, word[1]) for number in range(word[2])]
    elif word[0] == "right":
        numbered = [(number, word[1]) for number in range(copies)]
    elif word[0] == "left":
        numbered = [(number, word[1]) for number in reversed(range(copies))]
    else:
        numbered = []
    return [((number, *address), letter) for number, part in numbered
            for address, letter in some_places(part, copies)]


def some_formulas(levels):
    """Return many formulas with at most so many levels, all kinds of formulas among them."""
    formulas = [
        ("letter", "a", "x"), ("letter", "c", "z"), ("before", "x", "y"), ("next", "y", "x"),
        ("same", "z", "z"), ("in", "y", "X"), ("in", "x", "Z"), ("named", "oak"),
    ]
    for _ in range(levels - 1):
        formulas = formulas + [
            *[("not", formula) for formula in formulas],
            *[(kind, variable, formula) for formula in formulas
              for kind, variable in (("some", "x"), ("all", "y"), ("some", "X"), ("all", "Z"))],
            *[(kind, one, other) for kind in ("and", "or")
              for one, other in itertools.product(formulas[-4:], formulas[:6])],
        ]
    return formulas
