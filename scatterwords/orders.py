"""Orders: which values of an algebra are accepted wherever others are.

A value is above another one if each larger word that is accepted (its label is True) around
a word with the other value is accepted, too, with a word with this value in its stead. Where
only some value must be accepted, a value with another one above it is of no use.
"""

from scatterwords.masks import bits_of, mask_of


class Order:
    """The order of the values of an algebra."""

    def __init__(self, algebra):
        self.above = _values_above(algebra)
        self.known_masks = {}

    def greatest(self, mask):
        """Return the mask of the values in a mask without those that another one is above."""
        if mask not in self.known_masks:
            found = [value for value in bits_of(mask) if not self.above[value] & mask]
            self.known_masks[mask] = mask_of(found)
        return self.known_masks[mask]


def _values_above(algebra):
    """Return for each value the mask of the other values that are above it."""
    kin = {}
    for value, places in enumerate(algebra.masks):
        kin[places] = kin.get(places, 0) | (1 << value)
    accepted = mask_of([value for value, label in enumerate(algebra.labels) if label])
    not_above = [kin[places] & ~accepted if label else 0
                 for places, label in zip(algebra.masks, algebra.labels)]
    _spread(not_above, [_origins(action) for action in _actions(algebra)])
    return [kin[places] & ~not_above[value] & ~(1 << value)
            for value, places in enumerate(algebra.masks)]


def _actions(algebra):
    """Return lists of what becomes of each value if something is put around its words."""
    letters = list(algebra.letter_values.values())
    generators = sorted(set([*letters, *algebra.endless_right, *algebra.endless_left]))
    found = [algebra.rows[generator] for generator in generators]
    for generator in generators:
        found.append([row[generator] for row in algebra.rows])
    return [*found, algebra.endless_right, algebra.endless_left]


def _origins(action):
    """Return the dict of the lists of the values that become a value."""
    found = {}
    for value, result in enumerate(action):
        found.setdefault(result, []).append(value)
    return found


def _spread(not_above, all_origins):
    """Add to the masks what follows: where results are not above, the values are not, either."""
    masks = [{result: mask_of(origins[result]) for result in origins} for origins in all_origins]
    fresh = list(not_above)
    waiting = [value for value, mask in enumerate(fresh) if mask]
    while waiting:
        value = waiting.pop()
        others = bits_of(fresh[value])
        fresh[value] = 0
        for origins, origin_masks in zip(all_origins, masks):
            if value in origins:
                reached = 0
                for other in others:
                    reached = reached | origin_masks.get(other, 0)
                for before in origins[value]:
                    more = reached & ~not_above[before]
                    if more:
                        not_above[before] = not_above[before] | more
                        if not fresh[before]:
                            waiting.append(before)
                        fresh[before] = fresh[before] | more
