"""The source of the words whose results a table accepts: what becomes of a word in a step."""

from scatterwords.algebras import NOTHING
from scatterwords.scans import Orbit


class ChangeSource:
    """The source of a step, given by its marker, and of the algebra of a table.

    A key has the value of the word before the step, and for each two classes of words that
    may be before it and behind it the value of what the word becomes between them.
    """

    def __init__(self, marker, algebra):
        self.marker = marker
        self.algebra = algebra
        self.variables = 0
        self.width = len(marker.behind_steps)
        self.contexts = [(ahead, behind) for ahead in range(len(marker.ahead_steps))
                         for behind in range(self.width)]

    def empty_key(self):
        return (NOTHING,) * (1 + len(self.contexts))

    def letter_key(self, letter, mask):
        found = []
        for ahead, behind in self.contexts:
            letters = self.marker.place_labels[(ahead, letter, behind)]
            found.append(self._product([self.algebra.letter_values[(sign, 0)]
                                        for sign in letters]))
        return (self.marker.algebra.letter_values[(letter, 0)], *found)

    def product_key(self, one, other):
        rows = self.algebra.rows
        found = []
        for ahead, behind in self.contexts:
            before = self._result(one, ahead, self.marker.behind_steps[behind][other[0]])
            after = self._result(other, self.marker.ahead_steps[ahead][one[0]], behind)
            found.append(rows[before][after])
        return (self.marker.algebra.rows[one[0]][other[0]], *found)

    def right_key(self, one):
        whole = self.marker.algebra.endless_right[one[0]]
        found = []
        for ahead, behind in self.contexts:
            orbit = Orbit(self.marker.ahead_steps, ahead, one[0])
            rest = self.marker.behind_steps[behind][whole]
            results = [self._result(one, state, rest) for state in orbit.states]
            value = self.algebra.endless_right[self._product(results[orbit.lead:])]
            found.append(self._product([*results[:orbit.lead], value]))
        return (whole, *found)

    def left_key(self, one):
        whole = self.marker.algebra.endless_left[one[0]]
        found = []
        for ahead, behind in self.contexts:
            # The copies are numbered from the right.
            orbit = Orbit(self.marker.behind_steps, behind, one[0])
            rest = self.marker.ahead_steps[ahead][whole]
            results = [self._result(one, rest, state) for state in orbit.states]
            value = self.algebra.endless_left[self._product(results[orbit.lead:][::-1])]
            found.append(self._product([value, *results[:orbit.lead][::-1]]))
        return (whole, *found)

    def label_of(self, key):
        return self.algebra.labels[self._result(key, 0, 0)]

    def _result(self, key, ahead, behind):
        """Return the value of what a word becomes between two classes of words."""
        return key[1 + ahead * self.width + behind]

    def _product(self, values):
        """Return the value of words with some values, one after the other."""
        found = NOTHING
        for value in values:
            found = self.algebra.rows[found][value]
        return found
