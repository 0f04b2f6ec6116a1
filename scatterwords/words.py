"""Words as trees: how they are built, turned round and measured."""

LETTERS = "abc"
MARKED = ("A", "B", "C")
MAX_COPIES = 10 ** 30
EMPTY = ("empty",)


def joined(*words):
    """Return the words one after the other, without those that are ("empty",)."""
    parts = tuple([word for word in words if word != EMPTY])
    if not parts:
        return EMPTY
    if len(parts) == 1:
        return parts[0]
    return ("join", parts)


def repeated(word, many):
    """Return many copies of a word."""
    if many == 0:
        return EMPTY
    if many == 1:
        return word
    return ("times", word, many)


def mirror(word):
    """Return the word with the order of its places reversed."""
    kind = word[0]
    if kind == "join":
        return ("join", tuple([mirror(part) for part in reversed(word[1])]))
    if kind == "times":
        return ("times", mirror(word[1]), word[2])
    if kind == "right":
        return ("left", mirror(word[1]))
    if kind == "left":
        return ("right", mirror(word[1]))
    return word


def unmarked(word):
    """Return the word with all letters in lowercase."""
    kind = word[0]
    if kind == "letter":
        return ("letter", word[1].lower())
    if kind == "join":
        return ("join", tuple([unmarked(part) for part in word[1]]))
    if kind == "times":
        return ("times", unmarked(word[1]), word[2])
    if kind in ("right", "left"):
        return (kind, unmarked(word[1]))
    return word


def is_empty(word):
    """Return whether a word has no place."""
    return length(word) == 0


def letter_count(word, letter):
    """Return how many places have a letter, or None for endlessly many."""
    return _count(word, (letter,))


def length(word):
    """Return how many places there are, or None for endlessly many."""
    return _count(word, (*LETTERS, *MARKED))


def depth(word):
    """Return the number of levels of a tree."""
    return len(tree_levels(word))


def node_count(word):
    """Return the number of nodes of a tree."""
    return sum([len(level) for level in tree_levels(word)])


def inner_words(word):
    """Return the tuple of the words directly within a word, from left to right."""
    if word[0] == "join":
        return word[1]
    if word[0] in ("times", "right", "left"):
        return (word[1],)
    return ()


def tree_levels(word):
    """Return the lists of the nodes on each level of a tree, the outermost level first."""
    # Level by level and not by recursion: a text that is still to be found too deep
    # has a tree of up to 200 levels.
    levels = []
    level = [word]
    while level:
        levels.append(level)
        level = [part for node in level for part in inner_words(node)]
    return levels


def _count(word, letters):
    """Return how many places have one of the letters, or None for endlessly many."""
    kind = word[0]
    if kind == "letter":
        return 1 if word[1] in letters else 0
    if kind == "join":
        counts = [_count(part, letters) for part in word[1]]
        return None if None in counts else sum(counts)
    if kind == "times" and word[2] > 0:
        count = _count(word[1], letters)
        return None if count is None else count * word[2]
    if kind in ("right", "left"):
        return 0 if _count(word[1], letters) == 0 else None
    return 0
