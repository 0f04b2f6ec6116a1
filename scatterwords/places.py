"""The places of a word: their addresses, their order, and the words around them."""

from scatterwords.errors import InvalidAddress
from scatterwords.words import MAX_COPIES, is_empty, joined, length, repeated


def letter_at(word, address):
    """Return the letter at an address."""
    return _nodes_on_the_way(word, address)[-1][1]


def compare(word, one, other):
    """Return -1, 0 or 1: the first place is before the other one, is it, or is behind it."""
    nodes = _nodes_on_the_way(word, one)
    # The other address is checked even where the order is plain without the rest of it.
    _nodes_on_the_way(word, other)
    for node, number, against in zip(nodes, one, other):
        if number != against:
            # The copies of left are numbered from the right.
            is_before = number > against if node[0] == "left" else number < against
            return -1 if is_before else 1
    return 0


def cut(word, address):
    """Return the word ahead of a place, the letter of the place, and the word behind it."""
    nodes = _nodes_on_the_way(word, address)
    # The pieces of all levels stand in one join each, so that the tree of a cut word does
    # not grow deeper when it is cut again.
    ahead = []
    behind = []
    for node, number in zip(nodes, address):
        before, after = _pieces_beside(node, number)
        ahead = [*ahead, *before]
        behind = [*after, *behind]
    return joined(*ahead), nodes[-1][1], joined(*behind)


def first_place(word):
    """Return the address of the first place, or None if there is none."""
    kind = word[0]
    if kind == "letter":
        return ()
    if kind == "join":
        for at, part in enumerate(word[1]):
            if not is_empty(part):
                return _longer(at, first_place(part))
    if kind == "right" or (kind == "times" and word[2] > 0):
        return _longer(0, first_place(word[1]))
    return None


def last_place(word):
    """Return the address of the last place, or None if there is none."""
    kind = word[0]
    if kind == "letter":
        return ()
    if kind == "join":
        for at, part in reversed(list(enumerate(word[1]))):
            if not is_empty(part):
                return _longer(at, last_place(part))
    if kind == "left":
        return _longer(0, last_place(word[1]))
    if kind == "times" and word[2] > 0:
        return _longer(word[2] - 1, last_place(word[1]))
    return None


def walk(word, *, many=10):
    """Yield the addresses of the places with finitely many places before them, in order."""
    yield from _opening(word, many)


def _nodes_on_the_way(word, address):
    """Return the nodes on the way to a place, from the whole word to the letter."""
    nodes = [word]
    for number in address:
        nodes.append(_inner(nodes[-1], number))
    if nodes[-1][0] != "letter":
        raise InvalidAddress()
    return nodes


def _inner(word, number):
    """Return the word that a number in an address leads to."""
    kind = word[0]
    if kind == "join" and 0 <= number < len(word[1]):
        return word[1][number]
    if kind == "times" and 0 <= number < word[2]:
        return word[1]
    if kind in ("right", "left") and 0 <= number <= MAX_COPIES:
        return word[1]
    raise InvalidAddress()


def _pieces_beside(word, number):
    """Return the words before and the words behind the part or the copy with a number."""
    kind, inner = word[0], word[1]
    if kind == "join":
        return inner[:number], inner[number + 1:]
    if kind == "times":
        return (repeated(inner, number),), (repeated(inner, word[2] - number - 1),)
    # Without some copies at their end endless copies are still the same endless copies.
    if kind == "right":
        return (repeated(inner, number),), (word,)
    return (word,), (repeated(inner, number),)


def _longer(number, address):
    """Return the address with a number before it, or None if there is no address."""
    return None if address is None else (number, *address)


def _opening(word, room):
    """Return the addresses that walk yields, at most as many as there is room for."""
    kind = word[0]
    if kind == "letter":
        return [()][:room]
    if kind == "join":
        return _opening_of_parts(word[1], room)
    if kind == "times":
        return _opening_of_copies(word[1], word[2], room)
    if kind == "right":
        return _opening_of_copies(word[1], MAX_COPIES, room)
    return []


def _opening_of_parts(parts, room):
    """Return the addresses that walk yields for words one after the other."""
    found = []
    for at, part in enumerate(parts):
        found.extend([(at, *address) for address in _opening(part, room - len(found))])
        if len(found) >= room or length(part) is None:
            break
    return found


def _opening_of_copies(word, many, room):
    """Return the addresses that walk yields for copies of a word, numbered from the left."""
    inner = _opening(word, room)
    if not inner:
        return []
    # Behind the first copy of an endless word each place has endlessly many before it.
    wanted = 1 if length(word) is None else room // len(inner) + 1
    found = [(number, *address) for number in range(min(many, wanted)) for address in inner]
    return found[:room]
