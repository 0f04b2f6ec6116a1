"""The commands of books: what they make of the entries, and what they check.

The entries of a book are a dict from names to pairs of a kind, "word" or "formula", and a
tree. It is not changed: each command makes a new one.
"""

from scatterwords.errors import (CircularName, DuplicateName, FreeVariables, InvalidName,
                                 LimitReached, NameInUse, UnknownName, WrongKind)
from scatterwords.formulas import formula_names, free_variables
from scatterwords.formulatext import parse_formula
from scatterwords.wordtext import MAX_NAME, names_in, parse_word

# How many items the commands have.
COMMANDS = {"word": 3, "formula": 3, "replace": 3, "drop": 2, "rename": 3}


def is_command(command):
    """Return whether a tuple is a command."""
    return len(command) > 0 and COMMANDS.get(command[0]) == len(command)


def entries_after(entries, command, room):
    """Return the entries after a command, in a book that may have so many names."""
    kind, name = command[0], command[1]
    if kind == "drop":
        return _without(entries, name)
    if kind == "rename":
        return _renamed(entries, name, command[2])
    if kind == "replace":
        return _replaced(entries, name, command[2])
    _check_new_name(entries, name)
    if len(entries) >= room:
        raise LimitReached(room)
    return {**entries, name: (kind, _read(entries, kind, command[2]))}


def uses_of(entry):
    """Return the list of the names in an entry, ascending, each once."""
    kind, tree = entry
    return names_in(tree) if kind == "word" else formula_names(tree)


def users_of(entries, name):
    """Return the list of the names that use a name directly, ascending."""
    return sorted([user for user in entries if name in uses_of(entries[user])])


def all_uses(entries, name):
    """Return the list of the names that a name uses, directly or not, each once."""
    found = []
    waiting = uses_of(entries[name])
    while waiting:
        used = waiting.pop()
        if used not in found:
            found.append(used)
            waiting.extend(uses_of(entries[used]))
    return found


def check_kind(entries, name, kind):
    """Raise an error if there is no entry of this kind under a name."""
    if name not in entries:
        raise UnknownName(name)
    if entries[name][0] != kind:
        raise WrongKind(name)


def _check_new_name(entries, name):
    """Raise an error if a name cannot be a new one."""
    if not 1 <= len(name) <= MAX_NAME or [sign for sign in name if not "a" <= sign <= "z"]:
        raise InvalidName(name)
    if name in entries:
        raise DuplicateName(name)


def _read(entries, kind, text):
    """Return the word or the formula of a text whose names are in the entries."""
    tree = parse_word(text) if kind == "word" else parse_formula(text)
    if kind == "formula":
        variables = free_variables(tree)
        if variables:
            raise FreeVariables(variables)
    names = uses_of((kind, tree))
    for name in names:
        if name not in entries:
            raise UnknownName(name)
    for name in names:
        check_kind(entries, name, kind)
    return tree


def _replaced(entries, name, text):
    if name not in entries:
        raise UnknownName(name)
    kind = entries[name][0]
    found = {**entries, name: (kind, _read(entries, kind, text))}
    if name in all_uses(found, name):
        raise CircularName(name)
    return found


def _without(entries, name):
    if name not in entries:
        raise UnknownName(name)
    users = users_of(entries, name)
    if users:
        raise NameInUse(users[0])
    return {other: entries[other] for other in entries if other != name}


def _renamed(entries, old, new):
    if old not in entries:
        raise UnknownName(old)
    _check_new_name(entries, new)
    return {new if name == old else name: (entries[name][0],
                                           _renamed_tree(entries[name][1], old, new))
            for name in entries}


def _renamed_tree(tree, old, new):
    """Return a word or a formula, or a tuple of words, with another name in it."""
    if tree in (("name", old), ("named", old)):
        return (tree[0], new)
    return tuple([_renamed_tree(part, old, new) if isinstance(part, tuple) else part
                  for part in tree])
