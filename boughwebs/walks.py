"""Webs as plain lists, mirrored at sinks and back at sources, however great their rooms become.

Where rooms become great nearly all numbers of the tables are 0: lines and columns are dicts from
indexes to the numbers there that are not 0.
"""

from boughwebs.nets import Net
from boughwebs.solving import reduced, reduced_rows, sparse
from boughwebs.tables import Table
from boughwebs.webs import Web
from boughwebs.words import flipped


class Loose:
    """A web as plain lists: pairs for the arrows, a number for each room, lines for each table."""

    def __init__(self, prime, arrows, sizes, tables):
        self.prime = prime
        self.arrows = arrows
        self.sizes = sizes
        self.tables = tables


def loosened(web):
    """The Web as plain lists."""
    return Loose(web.prime, list(web.net.arrows), list(web.sizes), [sparse(table.lines) for table in web.tables])


def tightened(loose):
    """The Web that the plain lists tell."""
    net = Net(len(loose.sizes), loose.arrows)
    tables = []
    for lines, (tail, head) in zip(loose.tables, net.arrows):
        wide = loose.sizes[tail]
        full = [[line.get(k, 0) for k in range(wide)] for line in lines]
        tables.append(Table(loose.prime, loose.sizes[head], wide, full))
    return Web(net, loose.prime, tuple(loose.sizes), tables)


def point_at(prime, arrows, places, place):
    """The web with size 1 at the place and 0 elsewhere."""
    sizes = [1 if k == place else 0 for k in range(places)]
    return Loose(prime, arrows, sizes, [[{}] if head == place else [] for tail, head in arrows])


def least_end(arrows, places):
    """The least place from which no arrow leads away."""
    tails = [tail for tail, head in arrows]
    return min([place for place in range(places) if place not in tails])


def lines_across(lines, wide):
    """The columns of these lines, as lines."""
    found = [{} for _ in range(wide)]
    for at, line in enumerate(lines):
        for k, number in line.items():
            found[k][at] = number
    return found


def _joined(parts, wides):
    """The lines that have these lists of lines, equally many of so many columns each, beside one another."""
    found = []
    ahead = 0
    for lines, wide in zip(parts, wides):
        if not found:
            found = [{} for _ in lines]
        for row, line in zip(found, lines):
            for k, number in line.items():
                row[ahead + k] = number
        ahead += wide
    return found


def _kernel_lines(prime, wide, leading):
    """The lines of the table of what reduced lines lead to 0, one for each of so many columns of theirs."""
    free = {}
    for k in range(wide):
        if k not in leading:
            free[k] = len(free)
    found = []
    for k in range(wide):
        if k in free:
            found.append({free[k]: 1})
        else:
            found.append({free[j]: prime - number for j, number in leading[k].items() if j != k})
    return found


def _with_tables(loose, place, size, known, parts):
    """The web with another room at the place, and these tables along its arrows, turned."""
    sizes = list(loose.sizes)
    sizes[place] = size
    tables = list(loose.tables)
    for (at, end), lines in zip(known, parts):
        tables[at] = lines
    return Loose(loose.prime, flipped(loose.arrows, place), sizes, tables)


def _cut(lines, wides):
    """The lines cut into lists of so many each."""
    found = []
    for wide in wides:
        found.append(lines[:wide])
        lines = lines[wide:]
    return found


def mirrored_sink(loose, place):
    """The web mirrored at this sink, and which coordinates of the room there split off as points.

    What leads into the room and the points together span it: they are the coordinates at which
    the lines of the tables that lead in tell nothing that those above do not.
    """
    known = [(at, tail) for at, (tail, head) in enumerate(loose.arrows) if head == place]
    wides = [loose.sizes[tail] for at, tail in known]
    none = [{} for _ in range(loose.sizes[place])]
    rows = _joined([none] + [loose.tables[at] for at, tail in known], [0] + wides)
    leading, spare = reduced_rows(loose.prime, rows)
    lines = _kernel_lines(loose.prime, sum(wides), leading)
    return (_with_tables(loose, place, sum(wides) - len(leading), known, _cut(lines, wides)), spare)


def mirrored_source(loose, place):
    """The web mirrored at this source, and the coordinates of the rooms around it that the new one shows.

    Of pairs (arrow, coordinate at its other end): each coordinate of the new room is the only one
    that is led there from one of them, by 1.
    """
    known = [(at, head) for at, (tail, head) in enumerate(loose.arrows) if tail == place]
    wides = [loose.sizes[head] for at, head in known]
    if not loose.sizes[place] and not any(wides):
        return (_with_tables(loose, place, 0, [], []), [])
    rows = _joined([lines_across(loose.tables[at], loose.sizes[place]) for at, head in known], wides)
    leading = reduced(loose.prime, rows)
    size = sum(wides) - len(leading)
    columns = _cut(_kernel_lines(loose.prime, sum(wides), leading), wides)
    around = [(at, k) for (at, head), wide in zip(known, wides) for k in range(wide)]
    shown = [around[k] for k in range(len(around)) if k not in leading]
    return (_with_tables(loose, place, size, known, [lines_across(some, size) for some in columns]), shown)


def column_led(prime, columns, column):
    """What a table, told by its columns, makes of a column."""
    found = {}
    for at, many in column.items():
        for k, number in columns[at].items():
            found[k] = found.get(k, 0) + many * number
    return {k: found[k] % prime for k in found if found[k] % prime}
