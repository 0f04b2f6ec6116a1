"""Algebras: the finitely many values of words in which variables are chosen.

Variables are chosen at the places of a word: a place variable at one place at most, a set
variable at any places. An algebra has a value for each class of such words that nothing
around them tells apart. The value of a word follows from the values of its parts.
"""

from scatterwords.masks import PLACE_BITS, masks_within
from scatterwords.words import LETTERS, joined, repeated

# The value of the empty word, and that of all words in which a place variable is chosen twice.
NOTHING = 0
NOWHERE = 1


class Algebra:
    """The values of the words in which some variables are chosen.

    For each value: the mask of the place variables that are chosen in its words, the label
    (None unless all place variables are chosen), the values of endless copies, the row of its
    products with all values, and a way to it: a value, and the index of the recipe of what
    stands behind that. Recipes are ("letter", letter, mask), ("right", value) and
    ("left", value).
    """

    def __init__(self, variables):
        self.variables = variables
        self.letter_values = {}
        self.masks = []
        self.labels = []
        self.endless_right = []
        self.endless_left = []
        self.rows = []
        self.ways = []
        self.recipes = []


class Exploration:
    """All values that a source has: what is an algebra, but with values that are alike.

    A source has the variables, a key for each value, and the label of a key. Each value is a
    product of generators; steps has for each of them the products of all values with it.
    """

    def __init__(self, source):
        self.source = source
        self.variables = source.variables
        self.known_keys = [source.empty_key(), None]
        self.numbers = {self.known_keys[NOTHING]: NOTHING}
        self.masks = [0, -1]
        self.ways = [(NOTHING, -1), (NOTHING, -1)]
        self.letter_values = {}
        self.endless_right = [NOTHING, NOWHERE]
        self.endless_left = [NOTHING, NOWHERE]
        self.generators = []
        self.recipes = []
        self.steps = []
        self._enter_letters()
        self._enter_endless()
        full = self.variables & PLACE_BITS
        self.labels = [source.label_of(key) if mask == full else None
                       for key, mask in zip(self.known_keys, self.masks)]

    def _enter(self, key, mask, way):
        """Return the number of a key, which is a new one if the key is not known."""
        if key not in self.numbers:
            self.numbers[key] = len(self.known_keys)
            self.known_keys.append(key)
            self.masks.append(mask)
            self.ways.append(way)
        return self.numbers[key]

    def _enter_generator(self, key, mask, recipe):
        """Return the number of a key, which is a new generator if the key is not known."""
        if key not in self.numbers:
            at = self._enter(key, mask, (NOTHING, len(self.generators)))
            self.generators.append(at)
            self.recipes.append(recipe)
            self.steps.append([])
        return self.numbers[key]

    def _enter_letters(self):
        for letter in LETTERS:
            for mask in masks_within(self.variables):
                key = self.source.letter_key(letter, mask)
                value = self._enter_generator(key, mask & PLACE_BITS, ("letter", letter, mask))
                self.letter_values[(letter, mask)] = value
        self._close()

    def _enter_endless(self):
        """Find the values of endless copies, of those that are found meanwhile, too."""
        value = len(self.endless_right)
        while value < len(self.known_keys):
            if self.masks[value] == 0:
                key = self.source.right_key(self.known_keys[value])
                self.endless_right.append(self._enter_generator(key, 0, ("right", value)))
                key = self.source.left_key(self.known_keys[value])
                self.endless_left.append(self._enter_generator(key, 0, ("left", value)))
                self._close()
            else:
                self.endless_right.append(NOWHERE)
                self.endless_left.append(NOWHERE)
            value += 1

    def _close(self):
        """Find the products of all values with all generators."""
        before = -1
        while before < len(self.known_keys):
            before = len(self.known_keys)
            for at in range(len(self.generators)):
                row = self.steps[at]
                while len(row) < len(self.known_keys):
                    row.append(self._step(len(row), at))

    def _step(self, value, at):
        """Return the product of a value and a generator."""
        generator = self.generators[at]
        mask = self.masks[generator]
        if value == NOTHING:
            return generator
        if value == NOWHERE or self.masks[value] & mask:
            return NOWHERE
        key = self.source.product_key(self.known_keys[value], self.known_keys[generator])
        return self._enter(key, self.masks[value] | mask, (value, at))

    def left_steps(self):
        """Return the lists of the products of each generator with all values."""
        found = []
        for generator in self.generators:
            row = [generator, NOWHERE]
            for value in range(2, len(self.known_keys)):
                # A way leads from a smaller number, so that the product with that is known.
                before, at = self.ways[value]
                row.append(self.steps[at][row[before]])
            found.append(row)
        return found


def least_algebra(source):
    """Return the algebra of a source, in which values that are alike are one value."""
    exploration = Exploration(source)
    colors = _colors(exploration)
    order = []
    numbers = {}
    for value, color in enumerate(colors):
        if color not in numbers:
            numbers[color] = len(order)
            order.append(value)
    names = [numbers[color] for color in colors]
    algebra = renumbered(exploration, order, names)
    steps = [[names[row[value]] for value in order] for row in exploration.steps]
    for number in range(len(order)):
        row = [number, NOWHERE]
        for before, at in algebra.ways[2:]:
            row.append(steps[at][row[before]])
        algebra.rows.append(row)
    return algebra


def _colors(exploration):
    """Return numbers of the values, equal for those that nothing around them tells apart."""
    size = len(exploration.known_keys)
    left_steps = exploration.left_steps()
    actions = [*exploration.steps, *left_steps,
               exploration.endless_right, exploration.endless_left]
    kinds = {}
    colors = [kinds.setdefault(kind, len(kinds))
              for kind in zip(exploration.masks, exploration.labels)]
    many = len(kinds)
    before = 0
    while before < many:
        before = many
        for action in actions:
            kinds = {}
            finer = [kinds.setdefault(color * size + colors[to], len(kinds))
                     for color, to in zip(colors, action)]
            if len(kinds) > many:
                colors = finer
                many = len(kinds)
    return colors


def renumbered(algebra, order, names):
    """Return the algebra of the values in a list, without rows.

    names has for each value the number of the one in the list that stands for it.
    """
    found = Algebra(algebra.variables)
    found.letter_values = {key: names[algebra.letter_values[key]] for key in algebra.letter_values}
    found.masks = [algebra.masks[value] for value in order]
    found.labels = [algebra.labels[value] for value in order]
    found.endless_right = [names[algebra.endless_right[value]] for value in order]
    found.endless_left = [names[algebra.endless_left[value]] for value in order]
    found.ways = [(names[algebra.ways[value][0]], algebra.ways[value][1]) for value in order]
    found.recipes = [row if row[0] == "letter" else (row[0], names[row[1]])
                     for row in algebra.recipes]
    return found


def relabelled(algebra, labels):
    """Return the same algebra with other labels."""
    found = Algebra(algebra.variables)
    found.letter_values = algebra.letter_values
    found.masks = algebra.masks
    found.labels = labels
    found.endless_right = algebra.endless_right
    found.endless_left = algebra.endless_left
    found.rows = algebra.rows
    found.ways = algebra.ways
    found.recipes = algebra.recipes
    return found


def word_value(algebra, word, known):
    """Return the value of a word in which no variable is chosen.

    known has the values of the words that have names.
    """
    kind = word[0]
    if kind == "letter":
        return algebra.letter_values[(word[1], 0)]
    if kind == "name":
        return known[word[1]]
    if kind == "join":
        value = NOTHING
        for part in word[1]:
            value = algebra.rows[value][word_value(algebra, part, known)]
        return value
    if kind == "times":
        return power_value(algebra, word_value(algebra, word[1], known), word[2])
    if kind == "right":
        return algebra.endless_right[word_value(algebra, word[1], known)]
    if kind == "left":
        return algebra.endless_left[word_value(algebra, word[1], known)]
    return NOTHING


def power_value(algebra, value, many):
    """Return the value of many copies of a word with a value."""
    found = NOTHING
    while many > 0:
        if many & 1:
            found = algebra.rows[found][value]
        value = algebra.rows[value][value]
        many = many >> 1
    return found


def recipes_to(algebra, value):
    """Return the list of the recipes, from left to right, that lead to a value."""
    found = []
    while value != NOTHING:
        value, at = algebra.ways[value]
        found.append(algebra.recipes[at])
    found.reverse()
    return found


def witness_of(algebra, recipes):
    """Return the word that some recipes make."""
    runs = []
    for recipe in recipes:
        if runs and runs[-1][0] == recipe:
            runs[-1] = (recipe, runs[-1][1] + 1)
        else:
            runs.append((recipe, 1))
    words = [repeated(_cooked(algebra, recipe), many) for recipe, many in runs]
    return joined(*words)


def _cooked(algebra, recipe):
    """Return the word that a recipe makes."""
    if recipe[0] == "letter":
        return ("letter", recipe[1])
    return (recipe[0], witness_of(algebra, recipes_to(algebra, recipe[1])))
