"""The early and the late parts of a four, split off step by step, and what is left without them.

What a step on takes out is found at once; all else comes back by the step back from what was led
on. The step back leads columns of what was led on to columns of the four, the step on lines of what
was led back to lines of the four: so early parts are told by columns, late ones by lines.

A *piece* is a triple: the pair (k, i) of its name, the least four as plain lists, and its *chart*: for
each of the five rooms the columns, or lines.
"""

from boughwebs.fourlines import base_four, sizes_of_four
from boughwebs.foursteps import LINES, cut_columns, line_sizes, stepped_back, stepped_on
from boughwebs.vectors import combined, kernel_of_columns, reduced_vectors, units


def _unit_chart(four):
    """The chart of the four itself."""
    return [units(size) for size in line_sizes(four)] + [units(four[0])]


def _lone_piece(word, i, rooms):
    """The piece of a least four of no step; its rooms are told by what stands at line i and in the middle."""
    return ((0, i), base_four(word, i), rooms)


def _lone_early(prime, four, kernel):
    """The early pieces of no step: what the kernel leaves of the lines, all lines of the middle."""
    middle, tables = four
    found = []
    for i, some in enumerate(cut_columns(kernel, line_sizes(four))):
        leading = reduced_vectors(prime, some)
        for k, unit in enumerate(units(len(tables[i]))):
            if k not in leading:
                rooms = [[unit] if line == i else [] for line in range(LINES)]
                found.append(_lone_piece("early", i, rooms + [[tables[i][k]]]))
    leading = reduced_vectors(prime, [column for columns in tables for column in columns])
    for k, unit in enumerate(units(middle)):
        if k not in leading:
            found.append(_lone_piece("early", LINES, [[], [], [], [], [unit]]))
    return found


def _lone_late(prime, four, lines):
    """The late pieces of no step: what each line leads to 0, what all lines give in the middle.

    Their lines are 1 at one place: at such that of all this nothing but 0 has 0 at all of them.
    """
    middle, tables = four
    found = []
    for i, columns in enumerate(tables):
        _, free = kernel_of_columns(prime, columns)
        told = units(len(columns))
        for k in free:
            rooms = [[told[k]] if line == i else [] for line in range(LINES)]
            found.append(_lone_piece("late", i, rooms + [[]]))
    left = [line for some in lines for line in some]
    _, free = kernel_of_columns(prime, [[line[k] for line in left] for k in range(middle)])
    told = units(middle)
    for k in free:
        rooms = [[[column[k] for column in columns]] for columns in tables]
        found.append(_lone_piece("late", LINES, rooms + [[told[k]]]))
    return found


def _early_chart(prime, four, kernel, picks, columns):
    """The chart of a step back, with these picks, of what has these columns in the kernel of the four."""
    tables = four[1]
    wide = sum(line_sizes(four))
    led = [combined(prime, kernel, column, wide) for column in columns]
    cut = cut_columns(led, line_sizes(four))
    rooms = [[cut[line][k] for k in picks[line]] for line in range(LINES)]
    last = [combined(prime, tables[line], rooms[line][k], four[0]) for line, k in picks[LINES]]
    return rooms + [last]


def _late_chart(prime, four, lines, picks, chart):
    """The chart of a step on, with these picks, of what has this chart in what the lines of the four leave."""
    middle, tables = four
    last = [combined(prime, lines[line], chart[line][k], middle) for line, k in picks[LINES]]
    rooms = []
    for line, columns in enumerate(tables):
        found = []
        for k in picks[line]:
            found.append([sum([a * b for a, b in zip(last[k], column)]) % prime for column in columns])
        rooms.append(found)
    return rooms + [last]


def _raised(prime, word, level, piece, known):
    """The piece, or the rest, of what was led on or back, as one of the four of this level.

    Known are the steps of the least fours of all names that have been raised at this level.
    """
    four, told = level
    name, least, chart = piece
    if name not in known:
        known[name] = stepped_back(prime, least) if word == "early" else stepped_on(prime, least)
    after, _, picks = known[name]
    if word == "early":
        more = _early_chart(prime, four, told, picks, chart[LINES])
    else:
        more = _late_chart(prime, four, told, picks, chart)
    return (None if name is None else (name[0] + 1, name[1]), after, more)


def _levels(prime, word, four):
    """The four, what one step and another make of it, each with its lone pieces, until no room is left for more.

    Those of k steps have 3 k + 1 or more in all rooms, and in the middle k or more, early ones more.
    """
    left = [len(columns) for columns in four[1]] + [four[0]]
    more = 1 if word == "early" else 0
    found = []
    while left[LINES] >= len(found) + more and sum(left) > 3 * len(found):
        if word == "early":
            after, told, _ = stepped_on(prime, four)
            lone = _lone_early(prime, four, told)
        else:
            after, told, _ = stepped_back(prime, four)
            lone = _lone_late(prime, four, told)
        for (_, i), _, _ in lone:
            sizes = sizes_of_four((word, len(found), i))
            left = [a - b for a, b in zip(left, sizes)]
        found.append(((four, told), lone))
        four = after
    return (found, four)


def parted_four(prime, word, four):
    """The early or the late pieces of a plain four, and the rest, as a piece without a name."""
    levels, last = _levels(prime, word, four)
    pieces = []
    rest = (None, last, _unit_chart(last))
    for level, lone in reversed(levels):
        if lone or pieces:
            known = {}
            pieces = lone + [_raised(prime, word, level, piece, known) for piece in pieces]
            rest = _raised(prime, word, level, rest, known)
        else:
            rest = (None, level[0], _unit_chart(level[0]))
    return (pieces, rest)
