"""Books: words and formulas with names, with history, and tables that are kept."""

from scatterwords.algebras import word_value
from scatterwords.commands import (all_uses, check_kind, entries_after, is_command, users_of,
                                   uses_of)
from scatterwords.compiling import algebra_of
from scatterwords.errors import (EmptyHistory, InvalidCommand, LimitReached, Missing,
                                 ScatterError, UnknownName)
from scatterwords.formulas import formula_names
from scatterwords.formulatext import format_formula
from scatterwords.tables import Table, arranged
from scatterwords.wordtext import format_word, names_in


class Book:
    """Names with words and formulas."""

    MOST = 10

    def __init__(self):
        self._entries = {}
        # The entries before each step, and those behind each undone step, the last one last.
        self._past = []
        self._future = []
        self._room = self.MOST
        self._tables = {}
        self._compilations = 0

    def apply(self, *commands):
        """Run commands in order as one step."""
        for position, command in enumerate(commands):
            if not is_command(command):
                raise InvalidCommand(position)
        entries = self._entries
        for command in commands:
            entries = entries_after(entries, command, self._room)
        self._past.append(self._entries)
        self._future = []
        self._go_to(entries)

    def undo(self):
        """Undo the last step."""
        if not self._past:
            raise EmptyHistory()
        self._future.append(self._entries)
        self._go_to(self._past.pop())

    def redo(self):
        """Redo the step that was undone last."""
        if not self._future:
            raise EmptyHistory()
        self._past.append(self._entries)
        self._go_to(self._future.pop())

    def history(self):
        """Return the pair of the numbers of steps that can be undone and redone."""
        return len(self._past), len(self._future)

    @property
    def room(self):
        """How many names the book may have."""
        return self._room

    @room.setter
    def room(self, most):
        self.set_room(most)

    def set_room(self, most):
        """Change how many names the book may have."""
        if not 1 <= most <= self.MOST:
            raise LimitReached(self.MOST)
        self._room = most

    def known_names(self, *, kind=None):
        """Return the list of the names, or of those of one kind, ascending."""
        return sorted([name for name in self._entries if kind in (None, self._entries[name][0])])

    def kind_of(self, name):
        """Return "word" or "formula"."""
        return self._entry(name)[0]

    def text(self, name):
        """Return the text of the word or formula of a name."""
        kind, tree = self._entry(name)
        return format_word(tree) if kind == "word" else format_formula(tree)

    def uses(self, name):
        """Return the list of the names in the word or formula of a name, ascending."""
        return uses_of(self._entry(name))

    def users(self, name):
        """Return the list of the names that use a name directly, ascending."""
        self._entry(name)
        return users_of(self._entries, name)

    def table(self, name):
        """Return the table of a formula."""
        check_kind(self._entries, name, "formula")
        return self._table_of(name)

    def compiled_names(self):
        """Return the list of the names whose tables are kept, ascending."""
        return sorted(list(self._tables))

    @property
    def compilations(self):
        """The number of formulas that were compiled."""
        return self._compilations

    def holds(self, formula, word):
        """Return whether a named formula is true for a named word."""
        self._check_question(formula, word)
        table = self._table_of(formula)
        return table.accepts(self._value_in(table.algebra, word))

    def value(self, formula, word):
        """Return the value of a named word in the table of a named formula."""
        self._check_question(formula, word)
        return self._value_in(self._table_of(formula).algebra, word)

    def facts(self):
        """Yield the pairs of the names of a formula and a word for which it is true."""
        for formula in self.known_names(kind="formula"):
            for word in self.known_names(kind="word"):
                if self._answer(formula, word) is True:
                    yield (formula, word)

    def twin(self):
        """Return an independent book that is as this one."""
        other = Book()
        self._copy_to(other)
        return other

    def __len__(self):
        return len(self._entries)

    def __eq__(self, other):
        return isinstance(other, Book) and self._entries == other._entries

    def __contains__(self, name):
        return name in self._entries

    def __repr__(self):
        return f"Book({len(self._entries)} names)"

    def _entry(self, name):
        """Return the kind and the tree of a name."""
        if name not in self._entries:
            raise UnknownName(name)
        return self._entries[name]

    def _check_question(self, formula, word):
        """Raise an error if these are not the names of a formula and a word."""
        check_kind(self._entries, formula, "formula")
        check_kind(self._entries, word, "word")

    def _answer(self, formula, word):
        """Return what holds returns, or "unknown" if it would raise an error."""
        entries = self._entries
        if formula not in entries or entries[formula][0] != "formula":
            return "unknown"
        if word not in entries or entries[word][0] != "word":
            return "unknown"
        return self.holds(formula, word)

    def _table_of(self, name):
        """Return the table of a formula, which is compiled if it is not kept."""
        if name not in self._tables:
            formula = self._entries[name][1]
            known = {used: self._table_of(used).algebra for used in formula_names(formula)}
            self._tables[name] = Table(arranged(algebra_of(formula, known)))
            self._compilations += 1
        return self._tables[name]

    def _value_in(self, algebra, name):
        """Return the value of a named word in the algebra of a table."""
        values = {}
        self._add_value(algebra, name, values)
        return values[name]

    def _add_value(self, algebra, name, values):
        """Put the values of a named word, and of the words that it uses, into a dict."""
        if name not in values:
            word = self._entries[name][1]
            for used in names_in(word):
                self._add_value(algebra, used, values)
            values[name] = word_value(algebra, word, values)

    def _go_to(self, entries):
        """Make these the entries, and keep the tables of formulas that stay as they are."""
        self._tables = {name: self._tables[name] for name in self._tables
                        if _stays(name, self._entries, entries)}
        self._entries = entries

    def _copy_to(self, other):
        """Make another book as this one."""
        # Entries are never changed, so that both books can have the same ones.
        other._entries = self._entries
        other._past = list(self._past)
        other._future = list(self._future)
        other._room = self._room
        other._tables = dict(self._tables)
        other._compilations = self._compilations


class WatchBook(Book):
    """A book that counts refusals and watches questions."""

    def __init__(self):
        super().__init__()
        self._refused = 0
        # For each watched question the answer that news returned last, None at first.
        self._watched = {}

    def apply(self, *commands):
        """Run commands in order as one step, or count a refusal."""
        try:
            super().apply(*commands)
        except (ScatterError, Missing):
            self._refused += 1
            raise

    @property
    def refused(self):
        """The number of calls of apply that raised an error."""
        return self._refused

    def watch(self, formula, word):
        """Watch whether a named formula is true for a named word."""
        self._check_question(formula, word)
        self._watched[(formula, word)] = None

    def news(self):
        """Return the ascending list of the watched questions with new answers."""
        found = []
        for formula, word in sorted(list(self._watched)):
            answer = self._answer(formula, word)
            if answer != self._watched[(formula, word)]:
                self._watched[(formula, word)] = answer
                found.append((formula, word, answer))
        return found

    def twin(self):
        """Return an independent book that is as this one."""
        other = WatchBook()
        self._copy_to(other)
        other._refused = self._refused
        other._watched = {question: self._watched[question] for question in self._watched}
        return other


def _stays(name, before, after):
    """Return whether a name, and all that it uses, is the same in both entries."""
    names = all_uses(before, name)
    names.append(name)
    return all([other in after and before[other] == after[other] for other in names])
