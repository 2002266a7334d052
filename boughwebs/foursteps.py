"""Fours as plain lists of columns, led on and back by a step.

A *plain* four is a pair (size of the middle, four lists of the columns of its tables). A step's
*picks* are, for each line, the places of what its new room shows at once, and, for the new middle,
pairs (line, place of its room).
"""

from boughwebs.vectors import exchanged, kernel_of_columns

LINES = 4


def cut_columns(vectors, sizes):
    """For each line the list of what the vectors have at its places."""
    found = []
    ahead = 0
    for size in sizes:
        found.append([vector[ahead:ahead + size] for vector in vectors])
        ahead += size
    return found


def line_sizes(four):
    """The sizes of the rooms of the four lines."""
    return [len(columns) for columns in four[1]]


def _places(sizes):
    """The pairs (line, place) of all rooms one behind another."""
    return [(line, k) for line, size in enumerate(sizes) for k in range(size)]


def stepped_on(prime, four):
    """The plain four that step_on makes, the kernel of all tables, and the picks."""
    _, tables = four
    sizes = line_sizes(four)
    kernel, free = kernel_of_columns(prime, [column for columns in tables for column in columns])
    told = [kernel_of_columns(prime, columns) for columns in cut_columns(kernel, sizes)]
    places = _places(sizes)
    picks = [spots for _, spots in told] + [[places[k] for k in free]]
    return ((len(kernel), [columns for columns, _ in told]), kernel, picks)


def stepped_back(prime, four):
    """The plain four that step_back makes, for each line the lines of its left_over, and the picks."""
    middle, tables = four
    told = [kernel_of_columns(prime, exchanged(columns, middle)) for columns in tables]
    lines = [line for some, _ in told for line in some]
    sizes = [len(some) for some, _ in told]
    last, free = kernel_of_columns(prime, lines)
    places = _places(sizes)
    picks = [spots for _, spots in told] + [[places[k] for k in free]]
    columns = [exchanged(some, size) for some, size in zip(cut_columns(last, sizes), sizes)]
    return ((len(last), columns), [some for some, _ in told], picks)
