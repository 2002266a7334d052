"""How many webs of a row there are, alike ones counted once, and how many thin ones, for all primes at once.

Webs with a map to themselves that fades are counted, each by one through the number of its maps with
an inverse: the tables of such a map are told by *heaps*, tuples of falling numbers (the lengths of
its chains of columns). What is counted so is made of the thin webs alone, as the sums over the
divisors of a row show.
"""

from boughwebs.checks import is_number_to
from boughwebs.countings import arrow_sum
from boughwebs.errors import BadRow, TooMany
from boughwebs.generals import rows_up_to
from boughwebs.nets import check_net, is_row
from boughwebs.packings import packed, raised, unpacked
from boughwebs.tallies import tally_of_factors

GREATEST_SUM = 8
MOST_NUMBERS = 24


def _check_row(net, row):
    if not is_row(net, row) or not all([is_number_to(number, GREATEST_SUM) for number in row]):
        raise BadRow("numbers from 0 on are wanted, one for each place")
    if not 1 <= sum(row) <= GREATEST_SUM:
        raise BadRow("a sum from 1 to 8 is wanted")
    if arrow_sum(net, row, row) > MOST_NUMBERS:
        raise TooMany(MOST_NUMBERS)


def _heaps(size, most):
    """All tuples of falling numbers, none above the most, with this sum."""
    if size == 0:
        return [()]
    return [(first,) + rest for first in range(1, min(size, most) + 1) for rest in _heaps(size - first, first)]


def _across(heap):
    """For each k from 1 on how many numbers of the heap are k or more."""
    most = heap[0] if heap else 0
    return [len([number for number in heap if number >= k]) for k in range(1, most + 1)]


def _common(one, other):
    """How many maps lead from tables of the one heap to those of the other: both are told across."""
    return sum([a * b for a, b in zip(one, other)])


def _whole_power(numbers):
    """What x stands in as a power, and the powers of the factors, of whole_tally of each number, multiplied."""
    power = sum([number * (number - 1) // 2 for number in numbers])
    return (power, [k for number in numbers for k in range(1, number + 1)])


def _tables_of_heap(heap, across):
    """The packed tally of how many fading tables have this heap: all whole ones through those that keep one."""
    size = sum(heap)
    often = [heap.count(k) for k in range(1, size + 1)]
    power, above = _whole_power([size])
    less, below = _whole_power(often)
    less += _common(across, across) - sum([many * many for many in often])
    return packed(tally_of_factors(power - less, above, below))


def _told_heaps(most):
    """For each size up to the most the pairs of a heap, told across, and of how many tables have it."""
    found = []
    for size in range(most + 1):
        told = [(_across(heap), heap) for heap in _heaps(size, size)]
        found.append([(across, _tables_of_heap(heap, across)) for across, heap in told])
    return found


def _fading_pairs(net, row, told):
    """The packed tally of the pairs of a web of the row and a map from it to itself that fades."""
    chosen = [([], 1)]
    for size in row:
        chosen = [(some + [across], many * often) for some, many in chosen for across, often in told[size]]
    found = 0
    for some, many in chosen:
        power = sum([_common(some[tail], some[head]) for tail, head in net.arrows])
        found += raised(many, power)
    return found


def _choices(known, row, part):
    """The packed tally of whole tables of the row's sizes through those of the part's and of what is left."""
    found = 1
    for size, less in zip(row, part):
        found = found * known[size] // (known[less] * known[size - less])
    return found


def _whole_of_row(known, row):
    found = 1
    for size in row:
        found = found * known[size]
    return found


def _divisors(row):
    """The pairs (k, row) of all k above 1 so many times which another row is this one."""
    return [(k, tuple([number // k for number in row])) for k in range(2, max(row) + 1)
            if not any([number % k for number in row])]


def _spread(tally, k):
    """The packed tally with x to the power of k in the place of x."""
    return sum([raised(number, k * at) for at, number in enumerate(tally)])


def _thin_of(row, logs, whole, known):
    """The tally of thin webs of the row, of which logs are the sum over its divisors, told by all lesser rows.

    The sum over all k, and rows so many times which it is, of the sum of the row through k, times the
    tally of the lesser row with x to the power of k, through that power less 1, is logs through whole.
    """
    first = raised(1, 1) - 1
    above, below = logs, whole
    for k, lesser in _divisors(row):
        power = raised(1, k) - 1
        above = above * power - below * (sum(row) // k) * _spread(known[lesser], k)
        below = below * power
    return unpacked(above * first // (below * sum(row)))


def _lesser(goal):
    """All rows nowhere above the goal, but not those of noughts and the goal itself."""
    return rows_up_to(goal)[1:-1]


def _all_thin(net, row):
    """The tallies of thin webs of all rows up to this one, but that of noughts."""
    told = _told_heaps(max(row))
    known = [packed(tally_of_factors(size * (size - 1) // 2, list(range(1, size + 1)), []))
             for size in range(max(row) + 1)]
    pairs = {}
    logs = {}
    found = {}
    for goal in rows_up_to(row)[1:]:
        pairs[goal] = _fading_pairs(net, goal, told)
        many = sum(goal) * pairs[goal]
        for lesser in _lesser(goal):
            left = tuple([a - b for a, b in zip(goal, lesser)])
            many -= logs[lesser] * pairs[left] * _choices(known, goal, lesser)
        logs[goal] = many
        found[goal] = _thin_of(goal, many, _whole_of_row(known, goal), found)
    return found


def thin_tally(net, row):
    """How many thin webs of the row there are, alike ones counted once."""
    check_net(net)
    _check_row(net, row)
    return _all_thin(net, row)[row]


def class_tally(net, row):
    """How many webs of the row there are, alike ones counted once: each is a sum of webs told by thin ones."""
    check_net(net)
    _check_row(net, row)
    thin = _all_thin(net, row)
    found = {}
    sums = {}
    for goal in thin:
        sums[goal] = sum(goal) * packed(thin[goal])
        for k, lesser in _divisors(goal):
            sums[goal] += sum(lesser) * _spread(thin[lesser], k)
        many = sums[goal]
        for lesser in _lesser(goal):
            left = tuple([a - b for a, b in zip(goal, lesser)])
            many += sums[lesser] * found[left]
        found[goal] = many // sum(goal)
    return unpacked(found[row])
