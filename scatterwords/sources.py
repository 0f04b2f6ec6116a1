"""Sources of algebras: what there is to know about a word with regard to a formula.

A source describes each word in which variables are chosen by a key, so that the key of a
larger word follows from the keys of its parts, and whether a formula is true from the key.
"""

from scatterwords.algebras import NOTHING
from scatterwords.masks import BITS, PLACE_BITS, bits_of, mask_of
from scatterwords.orders import Order


class AtomSource:
    """The source of a formula without formulas in it: keys are texts with a sign a place.

    For letter and in, the sign of the place that is chosen says whether the formula is true.
    For the others, it says which of both places it is, or that it is both. All places
    without a sign are left out, but for next one dot stands for any number of them.
    """

    def __init__(self, formula):
        self.formula = formula
        self.variables = 0
        for sign in formula[2:] if formula[0] == "letter" else formula[1:]:
            self.variables = self.variables | BITS[sign]

    def empty_key(self):
        return ""

    def letter_key(self, letter, mask):
        kind, one, other = self.formula
        if kind == "letter":
            return _sign(mask & BITS[other], letter == one)
        if kind == "in":
            return _sign(mask & BITS[one], mask & BITS[other])
        if mask & BITS[one]:
            return "=" if mask & BITS[other] else "1"
        if mask & BITS[other]:
            return "2"
        return "." if kind == "next" else ""

    def product_key(self, one, other):
        return (one + other).replace("..", ".")

    def right_key(self, one):
        return one

    def left_key(self, one):
        return one

    def label_of(self, key):
        if self.formula[0] in ("letter", "in"):
            return key == "+"
        return ("=" if self.formula[0] == "same" else "12") in key


class LetterSource:
    """The source that tells which letter the place x has: this is the key and the label."""

    def __init__(self):
        self.variables = BITS["x"]

    def empty_key(self):
        return ""

    def letter_key(self, letter, mask):
        return letter if mask else ""

    def product_key(self, one, other):
        return one + other

    def right_key(self, one):
        return one

    def left_key(self, one):
        return one

    def label_of(self, key):
        return key


class JointSource:
    """The source of several algebras at once: keys have a value of each, and the mask.

    The label follows from the list of the labels of the algebras. There may be more
    variables than those of the algebras.
    """

    def __init__(self, algebras, label_from, variables=0):
        self.algebras = algebras
        self.label_from = label_from
        self.variables = variables
        for algebra in algebras:
            self.variables = self.variables | algebra.variables

    def empty_key(self):
        return (NOTHING,) * len(self.algebras) + (0,)

    def letter_key(self, letter, mask):
        found = [algebra.letter_values[(letter, mask & algebra.variables)]
                 for algebra in self.algebras]
        return (*found, mask & PLACE_BITS)

    def product_key(self, one, other):
        found = [algebra.rows[value][behind]
                 for algebra, value, behind in zip(self.algebras, one, other)]
        return (*found, one[-1] | other[-1])

    def right_key(self, one):
        found = [algebra.endless_right[value] for algebra, value in zip(self.algebras, one)]
        return (*found, 0)

    def left_key(self, one):
        found = [algebra.endless_left[value] for algebra, value in zip(self.algebras, one)]
        return (*found, 0)

    def label_of(self, key):
        label_from = self.label_from
        return label_from([algebra.labels[value] for algebra, value in zip(self.algebras, key)])


class PlaceSource:
    """The source of "some place": keys have the value for no place, and the mask for some place.

    Bit v of this mask says whether the place can be chosen so that the value is v. Values
    that others are above are left out, so that there are far fewer masks.
    """

    def __init__(self, algebra, bit):
        self.algebra = algebra
        self.order = Order(algebra)
        self.bit = bit
        self.variables = algebra.variables - bit

    def empty_key(self):
        return (NOTHING, 0)

    def letter_key(self, letter, mask):
        values = self.algebra.letter_values
        return (values[(letter, mask)], 1 << values[(letter, mask | self.bit)])

    def product_key(self, one, other):
        rows = self.algebra.rows
        without, chosen = one
        without_behind, chosen_behind = other
        found = 0
        for value in bits_of(chosen):
            found = found | (1 << rows[value][without_behind])
        for value in bits_of(chosen_behind):
            found = found | (1 << rows[without][value])
        return (rows[without][without_behind], self.order.greatest(found))

    def right_key(self, one):
        rows = self.algebra.rows
        endless = self.algebra.endless_right[one[0]]
        found = 0
        # Before the copy with the place there may be any number of copies without it.
        for value in bits_of(one[1]):
            value = rows[value][endless]
            while not found & (1 << value):
                found = found | (1 << value)
                value = rows[one[0]][value]
        return (endless, self.order.greatest(found))

    def left_key(self, one):
        rows = self.algebra.rows
        endless = self.algebra.endless_left[one[0]]
        found = 0
        for value in bits_of(one[1]):
            value = rows[endless][value]
            while not found & (1 << value):
                found = found | (1 << value)
                value = rows[value][one[0]]
        return (endless, self.order.greatest(found))

    def label_of(self, key):
        return True in [self.algebra.labels[value] for value in bits_of(key[1])]


class SetSource:
    """The source of "some set": keys are masks.

    Bit v of a mask says whether the set can be chosen so that the value is v. Values that
    others are above are left out, so that there are far fewer masks.
    """

    def __init__(self, algebra, bit):
        self.algebra = algebra
        self.order = Order(algebra)
        self.bit = bit
        self.variables = algebra.variables - bit

    def empty_key(self):
        return 1 << NOTHING

    def letter_key(self, letter, mask):
        values = self.algebra.letter_values
        return self.order.greatest(mask_of([values[(letter, mask)],
                                            values[(letter, mask | self.bit)]]))

    def product_key(self, one, other):
        """Return the mask of the products of values in two masks."""
        rows = self.algebra.rows
        behind = bits_of(other)
        found = 0
        for value in bits_of(one):
            row = rows[value]
            for other_value in behind:
                found = found | (1 << row[other_value])
        return self.order.greatest(found)

    def right_key(self, one):
        # However the set is chosen in the copies, they can be grouped so that all groups but
        # the first one have equal values: so the value is s before endlessly many e, with two
        # products s and e of values that the set can give to one copy.
        endless = self.algebra.endless_right
        found = new = mask_of([endless[value] for value in bits_of(self._powers(one))])
        while new:
            new = self.product_key(one, new) & ~found
            found = found | new
        return self.order.greatest(found)

    def left_key(self, one):
        endless = self.algebra.endless_left
        found = new = mask_of([endless[value] for value in bits_of(self._powers(one))])
        while new:
            new = self.product_key(new, one) & ~found
            found = found | new
        return self.order.greatest(found)

    def label_of(self, key):
        return True in [self.algebra.labels[value] for value in bits_of(key)]

    def _powers(self, mask):
        """Return the mask of the products of one or more values in a mask."""
        found = new = mask
        while new:
            new = self.product_key(new, mask) & ~found
            found = found | new
        return found


def _sign(is_chosen, is_true):
    """Return the sign of a place in a key: none if it is not chosen."""
    if not is_chosen:
        return ""
    return "+" if is_true else "-"
