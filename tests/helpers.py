"""What several tests use: short ways to write trees, and finite words place by place."""

import itertools

A = ("letter", "a")
B = ("letter", "b")
C = ("letter", "c")
EMPTY = ("empty",)
MOST = 10 ** 30


def join(*words):
    return ("join", words)


def times(word, many):
    return ("times", word, many)


def right(word):
    return ("right", word)


def left(word):
    return ("left", word)


def name(text):
    return ("name", text)


def nested(word, levels, kind="right"):
    """Return the word inside so many further levels."""
    for _ in range(levels):
        word = (kind, word)
    return word


def some_words(levels):
    """Return many words with at most so many levels, all kinds of words among them."""
    words = [EMPTY, A, B, ("letter", "C")]
    for _ in range(levels - 1):
        words = words + [
            *[times(word, many) for word in words for many in (0, 1, 2)],
            *[right(word) for word in words],
            *[left(word) for word in words],
            *[join(one, other) for one, other in itertools.product(words[:12], repeat=2)],
            *[join(word, A, word) for word in words[-6:]],
        ]
    return words


def spelled(word):
    """Return the letters of a word without endless copies, one by one."""
    if word[0] == "letter":
        return word[1]
    if word[0] == "join":
        return "".join(spelled(part) for part in word[1])
    if word[0] == "times":
        return spelled(word[1]) * word[2]
    if word[0] in ("right", "left"):
        raise ValueError("endless copies")
    return ""


def is_finite(word):
    """Return whether a word has no endless copies in its tree."""
    if word[0] == "join":
        return all(is_finite(part) for part in word[1])
    if word[0] == "times":
        return is_finite(word[1])
    return word[0] in ("empty", "letter")
