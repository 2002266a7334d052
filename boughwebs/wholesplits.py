"""Wholes shown to be of their kind by coordinates of whole numbers."""

from boughwebs.errors import NotSo
from boughwebs.evenwholes import all_leasts, even_whole
from boughwebs.kinds import is_kind, kind_row
from boughwebs.loom import loom_order
from boughwebs.vectors import lessened, reduced_vectors
from boughwebs.wholeequations import whole_kernel
from boughwebs.wholekinds import check_any_prime, check_good_whole, equations_along, general_kind_of_whole, great_prime
from boughwebs.wholekinds import kind_over
from boughwebs.wholetables import are_whole_lines, determinant_of, whole_times


def _columns_of_maps(least, whole, numbers):
    """For each place the columns of the tables, from the least whole's rooms to the whole's, with these numbers."""
    found = []
    ahead = 0
    for wide, tall in zip(least.sizes, whole.sizes):
        found.append([[numbers[ahead + k * wide + at] for k in range(tall)] for at in range(wide)])
        ahead += wide * tall
    return found


def _further_copies(prime, spans, told, many):
    """So many of the maps, told by columns at each place, that together lead to nothing in what is spanned."""
    known = {}
    found = []
    for columns in told:
        if len(found) == many:
            return found
        rest = []
        for leading, some in zip(spans, columns):
            for column in some:
                rest = rest + lessened(prime, leading, [number % prime for number in column])
        rest = lessened(prime, known, rest)
        if any(rest):
            known = reduced_vectors(prime, list(known.values()) + [rest])
            found.append(columns)
    return found


def _copies(whole, kind, prime):
    """For each root of the kind the columns of so many copies of its least whole in the whole.

    Maps lead onward alone in the loom: what the later roots span is the same for all that might be
    chosen, and of an earlier one so many maps lead further as there are copies.
    """
    leasts = all_leasts(whole.net)
    spans = [{} for _ in whole.sizes]
    found = {}
    for root in reversed(loom_order(whole.net)):
        if root in kind:
            least = leasts[root]
            wide = sum([a * b for a, b in zip(root, whole.sizes)])
            kernel = whole_kernel(prime, wide, equations_along(least, whole))
            told = [_columns_of_maps(least, whole, numbers) for numbers in kernel]
            found[root] = _further_copies(prime, spans, told, kind[root])
            for columns in found[root]:
                spans = [reduced_vectors(prime, list(leading.values())
                                         + [[number % prime for number in column] for column in some])
                         for leading, some in zip(spans, columns)]
    return found


def whole_split(whole, prime=None):
    """The kind of the whole, and coordinates that lead even_whole of it into the whole."""
    check_good_whole(whole)
    if prime is not None:
        check_any_prime(prime)
    kind = general_kind_of_whole(whole)
    if prime is not None and kind_over(whole, prime) != kind:
        raise NotSo("over this prime the whole is of another kind")
    copies = _copies(whole, kind, great_prime(whole) if prime is None else prime)
    coordinates = []
    for place, size in enumerate(whole.sizes):
        columns = [column for root in kind for some in copies[root] for column in some[place]]
        coordinates.append([[column[k] for column in columns] for k in range(size)])
    return (kind, coordinates)


def _are_coordinates(whole, thing):
    """Whether thing, which may be anything, is a list of square whole tables of determinants that are not 0."""
    if not isinstance(thing, list) or len(thing) != whole.net.places:
        return False
    for table, size in zip(thing, whole.sizes):
        if not isinstance(table, list) or not all([isinstance(line, list) for line in table]):
            return False
        if not are_whole_lines(table, size, size) or determinant_of(table) == 0:
            return False
    return True


def is_whole_split(whole, thing):
    """Whether thing, which may be anything, is such a pair as whole_split tells."""
    check_good_whole(whole)
    if not isinstance(thing, tuple) or len(thing) != 2:
        return False
    kind, coordinates = thing
    if not is_kind(whole.net, kind) or kind_row(whole.net, kind) != whole.sizes:
        return False
    if not _are_coordinates(whole, coordinates):
        return False
    even = even_whole(whole.net, kind)
    for at, (tail, head) in enumerate(whole.net.arrows):
        size = whole.sizes[tail]
        first = whole_times(whole.tables[at], coordinates[tail], size)
        if first != whole_times(coordinates[head], even.tables[at], size):
            return False
    return True
