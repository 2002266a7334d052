"""Probes: Tables along the arrows, back from the heads, that tell joinings apart that are not the same up to slack."""

from boughwebs.checks import is_same
from boughwebs.errors import BadProbe
from boughwebs.joinings import check_few, check_joining, count_numbers, minus_joining, twist
from boughwebs.maps import are_between, equations, map_of_numbers, numbers_of_map, offsets, tables_of_numbers
from boughwebs.solving import kernel_columns, reduced, solution
from boughwebs.tables import empty, is_sized, plus, times
from boughwebs.webs import check_together


def _probe_starts(one, other):
    """How many numbers of a probe stand ahead of each arrow."""
    found = [0]
    for tail, head in one.net.arrows:
        found.append(found[-1] + one.sizes[tail] * other.sizes[head])
    return found


def _are_back(one, other, thing):
    """Whether thing is a tuple of Tables from other's rooms at the heads to one's at the tails."""
    if not isinstance(thing, tuple) or len(thing) != len(one.net.arrows):
        return False
    return all([is_sized(table, one.prime, one.sizes[tail], other.sizes[head])
                for table, (tail, head) in zip(thing, one.net.arrows)])


def probes_both(one, other, thing):
    """Whether thing, which may be anything, is a probe of these webs of one net and prime."""
    if not _are_back(one, other, thing):
        return False
    for place in range(one.net.places):
        ahead = behind = empty(one.prime, one.sizes[place], other.sizes[place])
        for at, (tail, head) in enumerate(one.net.arrows):
            if head == place:
                ahead = plus(ahead, times(one.tables[at], thing[at]))
            if tail == place:
                behind = plus(behind, times(thing[at], other.tables[at]))
        if ahead != behind:
            return False
    return True


def is_probe(one, other, thing):
    """Whether thing, which may be anything, is a probe of one and other."""
    check_together(one, other)
    return probes_both(one, other, thing)


def _equation(one, other, starts, place, line, column):
    """The equation at this line and column of the rooms at the place, as a dict from the numbers of a probe."""
    row = {}
    for at, (tail, head) in enumerate(one.net.arrows):
        wide = other.sizes[head]
        if head == place:
            for k, number in enumerate(one.tables[at].lines[line]):
                row[starts[at] + k * wide + column] = number
        if tail == place:
            for k, told in enumerate(other.tables[at].lines):
                row[starts[at] + line * wide + k] = (0 - told[column]) % one.prime
    return {k: row[k] for k in row if row[k]}


def probes(one, other):
    """The probes of which all others are sums of multiples, in told order."""
    check_together(one, other)
    check_few(one, other)
    starts = _probe_starts(one, other)
    rows = [_equation(one, other, starts, place, line, column) for place in range(one.net.places)
            for line in range(one.sizes[place]) for column in range(other.sizes[place])]
    talls = [one.sizes[tail] for tail, head in one.net.arrows]
    wides = [other.sizes[head] for tail, head in one.net.arrows]
    columns = kernel_columns(count_numbers(one, other), reduced(one.prime, rows))
    return [tables_of_numbers(one.prime, talls, wides, column) for column in columns]


def value_at(probe, joining):
    """What probe_value tells, of what surely are a probe and a joining."""
    found = 0
    for first, second in zip(probe, joining):
        for i, line in enumerate(first.lines):
            found += sum([number * second.lines[j][i] for j, number in enumerate(line) if number])
    return found


def probe_value(one, other, probe, joining):
    """The sum of the numbers on the diagonals of the products, modulo the prime."""
    check_together(one, other)
    if not probes_both(one, other, probe):
        raise BadProbe("a probe of both webs is wanted")
    check_joining(one, other, joining)
    return value_at(probe, joining) % one.prime


def slack_or_probe(one, other, joining):
    """("slack", slack) that makes the joining, or ("probe", probe) with a value that is not 0 at it."""
    numbers = solution(one.prime, offsets(one, other)[-1], equations(one, other), numbers_of_map(joining))
    if numbers is not None:
        return ("slack", map_of_numbers(one, other, numbers))
    for probe in probes(one, other):
        if value_at(probe, joining) % one.prime:
            return ("probe", probe)
    return None


def compared(one, other, first, second):
    """("slack", slack) if both joinings are the same up to slack, otherwise ("probe", probe) that tells them apart."""
    check_together(one, other)
    check_joining(one, other, first)
    check_joining(one, other, second)
    check_few(one, other)
    return slack_or_probe(one, other, minus_joining(first, second))


def is_compared(one, other, first, second, thing):
    """Whether thing, which may be anything, is such a tuple as compared tells."""
    check_together(one, other)
    check_joining(one, other, first)
    check_joining(one, other, second)
    if not isinstance(thing, tuple) or len(thing) != 2:
        return False
    rest = minus_joining(first, second)
    if is_same("slack", thing[0]):
        return are_between(one, other, thing[1]) and twist(one, other, thing[1]) == rest
    if not is_same("probe", thing[0]) or not probes_both(one, other, thing[1]):
        return False
    return value_at(thing[1], rest) % one.prime != 0
