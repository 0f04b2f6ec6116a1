"""Weaving: the word in which each place of a word is replaced by letters."""

from scatterwords.words import EMPTY, joined, repeated


class Weaver:
    """Words as numbers, equal trees being one number, and what is made of them.

    The tree of a join has no joins among its parts. Number 0 is the empty word.
    """

    def __init__(self):
        self.trees = [EMPTY]
        self.pieces = [()]
        self.tree_numbers = {("join", ()): 0}

    def woven_letters(self, letters):
        """Return the word of some letters."""
        return self.woven_join([self._woven(("letter", letter), ("letter", letter))
                                for letter in letters])

    def woven_join(self, numbers):
        """Return the word of some words, one after the other."""
        pieces = tuple([piece for number in numbers for piece in self.pieces[number]])
        if len(pieces) == 1:
            return pieces[0]
        parts = [self.trees[piece] for piece in pieces]
        at = self._woven(("join", pieces), joined(*parts))
        self.pieces[at] = pieces
        return at

    def woven_times(self, number, many):
        """Return the word of many copies of a word."""
        if many == 0 or number == 0:
            return 0
        if many == 1:
            return number
        return self._woven(("times", number, many), repeated(self.trees[number], many))

    def woven_endless(self, kind, number):
        """Return the word of endlessly many copies of a word, to the right or to the left."""
        if number == 0:
            return 0
        return self._woven((kind, number), (kind, self.trees[number]))

    def woven_runs(self, numbers):
        """Return the word of some words, one after the other, equal ones as copies."""
        runs = []
        for number in numbers:
            if runs and runs[-1][0] == number:
                runs[-1] = (number, runs[-1][1] + 1)
            else:
                runs.append((number, 1))
        return self.woven_join([self.woven_times(number, many) for number, many in runs])

    def _woven(self, key, tree):
        """Return the number of a tree, which is a new one if the key is not known."""
        if key not in self.tree_numbers:
            self.tree_numbers[key] = len(self.trees)
            self.trees.append(tree)
            self.pieces.append((self.tree_numbers[key],))
        return self.tree_numbers[key]


class Rewriting:
    """A scan whose places are replaced by letters, those that text_for returns.

    text_for takes the letter of a place and its label.
    """

    def __init__(self, scan, text_for):
        self.scan = scan
        self.text_for = text_for
        self.weaver = Weaver()
        self.results = {}

    def result(self, at, ahead, behind):
        """Return the number of the word that a node becomes between two classes of words."""
        key = (at, ahead, behind)
        if key not in self.results:
            self.results[key] = self._new_result(at, ahead, behind)
        return self.results[key]

    def _new_result(self, at, ahead, behind):
        kind, inner, more = self.scan.nodes[at]
        if kind == "letter":
            text_for = self.text_for
            label = self.scan.marker.place_labels[(ahead, more, behind)]
            return self.weaver.woven_letters(text_for(more, label))
        if kind == "empty":
            return 0
        if kind == "join":
            contexts = self.scan.part_contexts(inner, ahead, behind)
            return self.weaver.woven_join([self.result(part, before, after)
                                           for part, (before, after) in zip(inner, contexts)])
        copies = self.scan.copies_of(at, ahead, behind)
        results = self._copy_results(inner[0], copies, list(range(copies.lead + copies.cycle)))
        lead = results[:copies.lead]
        cycle = _shortest(results[copies.lead:])
        if kind == "times":
            last = self._copy_results(inner[0], copies, copies.last_numbers())
            return self._many(lead, cycle, last, more - copies.lead - copies.tail)
        _roll_back(lead, cycle)
        if kind == "right":
            endless = self.weaver.woven_endless(kind, self.weaver.woven_runs(cycle))
            return self.weaver.woven_join([self.weaver.woven_runs(lead), endless])
        # The copies of left are numbered from the right.
        endless = self.weaver.woven_endless(kind, self.weaver.woven_runs(cycle[::-1]))
        return self.weaver.woven_join([endless, self.weaver.woven_runs(lead[::-1])])

    def _copy_results(self, part, copies, numbers):
        """Return the list of the results of some copies of a node."""
        found = []
        for number in numbers:
            ahead, behind = copies.context(number)
            found.append(self.result(part, ahead, behind))
        return found

    def _many(self, lead, cycle, last, middle):
        """Return the word of the first copies, so many copies of a cycle, and the last ones."""
        if middle == 0:
            return self.weaver.woven_runs([*lead, *last])
        middle = middle + _roll_back(lead, cycle)
        while last and last[0] == cycle[middle % len(cycle)]:
            last.pop(0)
            middle = middle + 1
        whole = self.weaver.woven_times(self.weaver.woven_runs(cycle), middle // len(cycle))
        rest = self.weaver.woven_runs([*cycle[:middle % len(cycle)], *last])
        return self.weaver.woven_join([self.weaver.woven_runs(lead), whole, rest])


def rewritten(scan, text_for):
    """Return the word in which each place of a scan is replaced by the letters for it."""
    rewriting = Rewriting(scan, text_for)
    return rewriting.weaver.trees[rewriting.result(scan.top, 0, 0)]


def _shortest(cycle):
    """Return the shortest list that makes a list if it is repeated."""
    for size in range(1, len(cycle)):
        if len(cycle) % size == 0 and cycle == cycle[:size] * (len(cycle) // size):
            return cycle[:size]
    return cycle


def _roll_back(lead, cycle):
    """Turn the cycle so that it begins as early as possible, and return how much earlier."""
    steps = 0
    while lead and lead[-1] == cycle[-1]:
        lead.pop()
        cycle.insert(0, cycle.pop())
        steps = steps + 1
    return steps
