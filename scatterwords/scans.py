"""Scans: what a marker says about all places of a word, without going through the copies.

What is before a copy of a part, and what is behind it, repeats from some copy on. So only few
of the copies are looked at, each for many others.
"""

from math import lcm

from scatterwords.algebras import NOTHING, power_value

# What is found where there is a place, but no first (or last) one.
ENDLESS = "endless"


class Copies:
    """The contexts of many or endlessly many (None) copies of a word, by their numbers.

    The first copies are different, lead of them, and the last ones, tail of them. Between
    them the contexts repeat after as many copies as cycle says.
    """

    def __init__(self, aheads, behinds, many):
        self.aheads = aheads
        self.behinds = behinds
        self.many = many
        self.cycle = lcm(aheads.cycle, behinds.cycle)
        if many is None:
            self.lead = max(aheads.lead, behinds.lead)
            self.tail = 0
        elif many < aheads.lead + behinds.lead + self.cycle:
            self.lead = many
            self.tail = self.cycle = 0
        else:
            self.lead = aheads.lead
            self.tail = behinds.lead

    def context(self, number):
        """Return the pair of the classes of what is before a copy and behind it."""
        # Finitely many copies have their number from the left before them, and their number
        # from the right behind them. Endless copies have an endless side: it is always equal.
        against = number if self.many is None else self.many - 1 - number
        return self.aheads.state(number), self.behinds.state(against)

    def groups(self):
        """Return the pairs of the number of a copy and how many copies have its context."""
        found = [(number, 1) for number in range(self.lead)]
        middle = None if self.many is None else self.many - self.lead - self.tail
        for at in range(self.cycle):
            # The first ones of the cycle may come once more than the last ones.
            many = None if middle is None else (middle + self.cycle - 1 - at) // self.cycle
            found.append((self.lead + at, many))
        found.extend([(number, 1) for number in self.last_numbers()])
        return found

    def last_numbers(self):
        """Return the list of the numbers of the last copies."""
        return [] if self.many is None else list(range(self.many - self.tail, self.many))

    def turning_numbers(self):
        """Return the list, ascending, of numbers in which each context has its first and last."""
        found = list(range(self.lead + self.cycle))
        if self.many is not None:
            found.extend(list(range(self.many - self.tail - self.cycle, self.many)))
        return found


class Orbit:
    """The classes that follow one another if words with one value are added again and again."""

    def __init__(self, steps, start, value):
        self.states = [start]
        state = steps[start][value]
        while state not in self.states:
            self.states.append(state)
            state = steps[state][value]
        self.lead = self.states.index(state)
        self.cycle = len(self.states) - self.lead

    def state(self, number):
        """Return the class after a number of words."""
        if number < self.lead:
            return self.states[number]
        return self.states[self.lead + (number - self.lead) % self.cycle]


class Scan:
    """A word as a list of nodes, equal parts being one node, and what a marker says about it.

    A node is a tuple of its kind, the numbers of the nodes within it, and what else it has.
    """

    def __init__(self, marker, word):
        self.marker = marker
        self.nodes = []
        self.node_values = []
        self.node_numbers = {}
        self.counts = {}
        self.hits = {}
        self.top = self._number_of(word)

    def _number_of(self, word):
        """Return the number of the node of a word."""
        kind = word[0]
        inner = ()
        if kind == "join":
            inner = tuple([self._number_of(part) for part in word[1]])
        elif kind in ("times", "right", "left"):
            inner = (self._number_of(word[1]),)
        more = word[-1] if kind in ("times", "letter") else None
        node = (kind, inner, more)
        if node not in self.node_numbers:
            self.node_numbers[node] = len(self.nodes)
            self.nodes.append(node)
            self.node_values.append(self._node_value(node))
        return self.node_numbers[node]

    def _node_value(self, node):
        kind, inner, more = node
        algebra = self.marker.algebra
        if kind == "letter":
            return algebra.letter_values[(more, 0)]
        values = [self.node_values[part] for part in inner]
        if kind == "times":
            return power_value(algebra, values[0], more)
        if kind == "right":
            return algebra.endless_right[values[0]]
        if kind == "left":
            return algebra.endless_left[values[0]]
        found = NOTHING
        for value in values:
            found = algebra.rows[found][value]
        return found

    def part_contexts(self, parts, ahead, behind):
        """Return the contexts of the parts of a join: pairs of the classes around them."""
        aheads = [ahead]
        behinds = [behind]
        for part in parts[:-1]:
            aheads.append(self.marker.ahead_steps[aheads[-1]][self.node_values[part]])
        for part in parts[:0:-1]:
            behinds.append(self.marker.behind_steps[behinds[-1]][self.node_values[part]])
        behinds.reverse()
        return list(zip(aheads, behinds))

    def copies_of(self, at, ahead, behind):
        """Return the copies in a node, with their contexts."""
        kind, inner, more = self.nodes[at]
        value = self.node_values[inner[0]]
        if kind == "right":
            behind = self.marker.behind_steps[behind][self.node_values[at]]
        if kind == "left":
            ahead = self.marker.ahead_steps[ahead][self.node_values[at]]
        # Adding nothing changes no class.
        aheads = Orbit(self.marker.ahead_steps, ahead, NOTHING if kind == "left" else value)
        behinds = Orbit(self.marker.behind_steps, behind, NOTHING if kind == "right" else value)
        return Copies(aheads, behinds, more)

    def count_hits(self, at, ahead, behind):
        """Return how many places of a node have the label True, or None for endlessly many."""
        key = (at, ahead, behind)
        if key not in self.counts:
            self.counts[key] = self._new_count(at, ahead, behind)
        return self.counts[key]

    def _new_count(self, at, ahead, behind):
        kind, inner, more = self.nodes[at]
        if kind == "letter":
            return 1 if self.marker.place_labels[(ahead, more, behind)] else 0
        if kind == "empty":
            return 0
        if kind == "join":
            rows = [(part, context, 1) for part, context in
                    zip(inner, self.part_contexts(inner, ahead, behind))]
        else:
            copies = self.copies_of(at, ahead, behind)
            rows = [(inner[0], copies.context(number), many) for number, many in copies.groups()]
        total = 0
        for part, (before, after), many in rows:
            count = self.count_hits(part, before, after)
            if count is None or (count > 0 and many is None):
                return None
            if count > 0:
                total = total + count * many
        return total

    def find_hit(self, at, ahead, behind, is_first):
        """Return the address of the first or last place in a node with the label True.

        The result is None if there is no place with this label, and ENDLESS if there is one,
        but no first (or last) one.
        """
        key = (at, ahead, behind, is_first)
        if key not in self.hits:
            self.hits[key] = self._new_hit(at, ahead, behind, is_first)
        return self.hits[key]

    def _new_hit(self, at, ahead, behind, is_first):
        kind, inner, more = self.nodes[at]
        if kind == "letter":
            return () if self.marker.place_labels[(ahead, more, behind)] else None
        if kind == "empty":
            return None
        if kind == "join":
            rows = list(enumerate(zip(inner, self.part_contexts(inner, ahead, behind))))
            return self._hit_in_rows(rows if is_first else rows[::-1], is_first)
        copies = self.copies_of(at, ahead, behind)
        rows = [(number, (inner[0], copies.context(number)))
                for number in copies.turning_numbers()]
        if kind == "times":
            return self._hit_in_rows(rows if is_first else rows[::-1], is_first)
        if (kind == "right") == is_first:
            return self._hit_in_rows(rows, is_first)
        # The search begins at the endless side of the copies.
        if self._hit_in_rows(rows[copies.lead:], is_first) is not None:
            return ENDLESS
        return self._hit_in_rows(rows[:copies.lead][::-1], is_first)

    def _hit_in_rows(self, rows, is_first):
        """Return what find_hit returns for parts or copies, in the order of the search."""
        for number, (part, (ahead, behind)) in rows:
            hit = self.find_hit(part, ahead, behind, is_first)
            if hit is not None:
                return ENDLESS if hit == ENDLESS else (number, *hit)
        return None
