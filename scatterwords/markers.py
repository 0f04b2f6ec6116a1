"""Markers: the label of a place of a word, by what is before the place and behind it."""

from scatterwords.algebras import word_value
from scatterwords.masks import BITS
from scatterwords.words import LETTERS


class Marker:
    """What an algebra with the variable x says about places.

    The values of the words before a place are grouped into classes: values are in one class
    if no word behind them and no place in it tells them apart. The same is done for the words
    behind a place. Class 0 is that of the empty word.
    """

    def __init__(self, algebra):
        self.algebra = algebra
        rows = algebra.rows
        chosen = [value for value, mask in enumerate(algebra.masks) if mask == BITS["x"]]
        plain = [value for value, mask in enumerate(algebra.masks) if mask == 0]
        ahead = _classes(plain, [[algebra.labels[rows[value][place]] for place in chosen]
                                 for value in plain])
        behind = _classes(plain, [[algebra.labels[rows[place][value]] for place in chosen]
                                  for value in plain])
        # For each class the dict of the classes with a word of some value next to the place.
        self.ahead_steps = [{value: ahead[rows[group][value]] for value in plain}
                            for group in _examples(ahead)]
        self.behind_steps = [{value: behind[rows[value][group]] for value in plain}
                             for group in _examples(behind)]
        self.place_labels = {}
        for at, one in enumerate(_examples(ahead)):
            for letter in LETTERS:
                row = rows[rows[one][algebra.letter_values[(letter, BITS["x"])]]]
                for against, other in enumerate(_examples(behind)):
                    self.place_labels[(at, letter, against)] = algebra.labels[row[other]]

    def label_between(self, ahead, letter, behind):
        """Return the label of a place with a letter between two words."""
        one = self.ahead_steps[0][word_value(self.algebra, ahead, {})]
        other = self.behind_steps[0][word_value(self.algebra, behind, {})]
        return self.place_labels[(one, letter, other)]


def _classes(values, signatures):
    """Return the dict of the classes of values: those with equal signatures are in one."""
    numbers = {}
    return {value: numbers.setdefault(tuple(signature), len(numbers))
            for value, signature in zip(values, signatures)}


def _examples(classes):
    """Return the list of the least values of the classes, in the order of the classes."""
    found = []
    for value in classes:
        if classes[value] == len(found):
            found.append(value)
    return found
