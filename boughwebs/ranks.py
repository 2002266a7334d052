"""Ways to count how often each root is in the kind of a web, and how many maps it has to itself."""

from boughwebs.errors import TooMany
from boughwebs.kinds import maps_of_kinds
from boughwebs.leasts import least_web
from boughwebs.maps import every_map
from boughwebs.meshes import counts_of_kind
from boughwebs.roots import check_good, check_root
from boughwebs.solving import count_whole, to_power
from boughwebs.splits import kind_of, peel, rows_of_steps
from boughwebs.tables import GREATEST, Table
from boughwebs.webs import check_web


def pairing_table(web, root):
    """For each map from the root's least web to web and each one back the number that both make of plain."""
    check_web(web)
    check_good(web.net)
    check_root(web.net, root)
    kind = kind_of(web)
    # How many maps there are is known from the kind, so that no more are made than can be told.
    if max(maps_of_kinds(web.net, {root: 1}, kind), maps_of_kinds(web.net, kind, {root: 1})) > GREATEST:
        raise TooMany(GREATEST)
    least = least_web(web.net, web.prime, root)
    place = [k for k, number in enumerate(root) if number][0]
    columns = [[line[0] for line in mapping[place].lines] for mapping in every_map(least, web)]
    lines = [mapping[place].lines[0] for mapping in every_map(web, least)]
    numbers = [[sum([a * b for a, b in zip(line, column)]) for column in columns] for line in lines]
    return Table(web.prime, len(lines), len(columns), numbers)


def counts_of(web):
    """How many maps lead from each root's least web to web: as many as the kind of the web tells."""
    kind = kind_of(web)
    return counts_of_kind(web.net, kind)


def peeled(web):
    """The triples (place, many, row) of the mirrors at the least sink, until all rooms are empty."""
    check_web(web)
    check_good(web.net)
    steps = peel(web)
    return [(place, len(spare), row) for (loose, place, spare), row in zip(steps, rows_of_steps(web.net, steps))]


def count_turns(web):
    """How many maps from the web to itself have an inverse."""
    kind = kind_of(web)
    squares = sum([many * many for many in kind.values()])
    found = to_power(web.prime, maps_of_kinds(web.net, kind, kind) - squares)
    for many in kind.values():
        found = found * count_whole(web.prime, many)
    return found


def count_fading(web):
    """How many maps from the web to itself come to 0 if they are done often enough."""
    kind = kind_of(web)
    return to_power(web.prime, maps_of_kinds(web.net, kind, kind) - sum(kind.values()))
