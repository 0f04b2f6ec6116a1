"""scatterwords/orders.py: which values are accepted wherever others are."""

import unittest

from plain import Maker
from scatterwords.compiling import algebra_of
from scatterwords.formulatext import parse_formula
from scatterwords.masks import bits_of, mask_of
from scatterwords.orders import Order


def pairs_by_trying(algebra):
    """Return the pairs of a value and another one above it, by leaving out all others."""
    values = range(len(algebra.masks))
    pairs = {(one, other) for one in values for other in values
             if algebra.masks[one] == algebra.masks[other]
             and (algebra.labels[other] or not algebra.labels[one])}
    many = 0
    while many != len(pairs):
        many = len(pairs)
        pairs = {(one, other) for one, other in pairs
                 if all((algebra.rows[one][more], algebra.rows[other][more]) in pairs
                        and (algebra.rows[more][one], algebra.rows[more][other]) in pairs
                        for more in values)
                 and (algebra.endless_right[one], algebra.endless_right[other]) in pairs
                 and (algebra.endless_left[one], algebra.endless_left[other]) in pairs}
    return {(one, other) for one, other in pairs if one != other}


class Orders(unittest.TestCase):
    def test_above(self):
        maker = Maker(41)
        formulas = [maker.formula(["x", "y", "X"], 4, 1) for _ in range(60)]
        formulas += [parse_formula(text) for text in (
            "a(x)", "(a(x) and x < y)", "some z (x < z and (z < y and a(z)))", "x next y",
            "(x in X or some y (x next y and y in X))")]
        for formula in formulas:
            algebra = algebra_of(formula, {})
            if len(algebra.masks) < 40:
                above = Order(algebra).above
                self.assertEqual({(one, other) for one, mask in enumerate(above)
                                  for other in bits_of(mask)}, pairs_by_trying(algebra))

    def test_greatest(self):
        for text in ("(a(x) and x < y)", "some y (x < y and y in X)", "x next y"):
            algebra = algebra_of(parse_formula(text), {})
            order = Order(algebra)
            pairs = pairs_by_trying(algebra)
            values = range(len(algebra.masks))
            self.assertEqual(order.greatest(0), 0)
            for one in values:
                self.assertEqual(order.greatest(1 << one), 1 << one)
                for other in values:
                    kept = [value for value in {one, other}
                            if not any((value, more) in pairs for more in (one, other))]
                    self.assertEqual(order.greatest(mask_of([one, other])), mask_of(kept))


if __name__ == "__main__":
    unittest.main()
