"""Masks: sets of small numbers as one number, of variables or of the values of an algebra."""

# Each variable has a bit, and several variables are the sum of their bits, a mask.
BITS = {"x": 1, "y": 2, "z": 4, "X": 8, "Y": 16, "Z": 32}
PLACE_BITS = 7


def masks_within(mask):
    """Return the list of all masks of variables that are in a mask."""
    found = [0]
    for bit in BITS.values():
        if mask & bit:
            found = found + [other | bit for other in found]
    return found


def bits_of(mask):
    """Return the list of the numbers of the bits in a mask, ascending."""
    found = []
    while mask:
        low = mask & -mask
        found.append(low.bit_length() - 1)
        mask = mask - low
    return found


def mask_of(numbers):
    """Return the mask with the bits of some numbers."""
    found = 0
    for number in numbers:
        found = found | (1 << number)
    return found
