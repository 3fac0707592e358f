"""Masks: integers in which bit k stands for the dealing of number k.

A *fit* is a list that tells, for each dealing at one row, the mask of the
dealings at another row that do not go against it.
"""


def numbers_in(mask):
    """Return the ascending list of the numbers of a mask."""
    return [number for number in range(mask.bit_length()) if mask >> number & 1]


def is_one(mask):
    """Return whether the mask is of just one number."""
    return mask > 0 and mask & (mask - 1) == 0


def joined(fit, other):
    """Return the fit by which only that fits which fits by both."""
    return [mask & more for mask, more in zip(fit, other)]


def turned(fit):
    """Return the same fit as it is seen from the other row."""
    return [
        sum([1 << number for number, mask in enumerate(fit) if mask >> other & 1])
        for other in range(len(fit))
    ]


def spread(fit):
    """Return the list that tells, for each mask at the one row, what fits some of it at the other."""
    found = [0]
    for mask in fit:
        found = found + [smaller | mask for smaller in found]
    return found
