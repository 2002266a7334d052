"""Tallies as single numbers: what they are at a power of 2 that is greater than all their items.

Sums and products of such numbers are those of the tallies, and come much sooner.
"""

WIDTH = 128


def raised(number, power):
    """The number times x to the power."""
    return number << WIDTH * power


def lowered(number, power):
    """What is left of a number that has x to the power as a factor."""
    return number >> WIDTH * power


def packed(tally):
    """The number of the tally."""
    found = 0
    for item in reversed(tally):
        found = (found << WIDTH) + item
    return found


def unpacked(number):
    """The tally of the number; its items may be below 0."""
    whole = 1 << WIDTH
    found = []
    while number:
        item = number & (whole - 1)
        if 2 * item >= whole:
            item -= whole
        found.append(item)
        number = (number - item) >> WIDTH
    return tuple(found)
