"""Fours: four lines in a middle room, led on and back by steps, and the least ones, told by names."""

from boughwebs.checks import is_number, is_number_to, is_same
from boughwebs.errors import BadKind, BadLeast, BadWeb, NotFour
from boughwebs.foursteps import LINES, stepped_back, stepped_on
from boughwebs.nets import Net
from boughwebs.polys import companion_of, is_bare, power_of
from boughwebs.tables import GREATEST, Table, check_prime, columns_of, empty, over, plain
from boughwebs.webs import Web, sum_or_bare

GREATEST_STEP = 11
GREATEST_KNOT = 12
GREATEST_TURN = 6


def four_net():
    """The net of four places with an arrow each to the fifth, the middle."""
    return Net(LINES + 1, ((0, 4), (1, 4), (2, 4), (3, 4)))


def check_four(web):
    """NotFour unless web is a Web on the net of fours."""
    if not isinstance(web, Web) or web.net != four_net():
        raise NotFour("a web of four lines in a middle is wanted")


def plain_four(web):
    """The four as foursteps tells it."""
    return (web.sizes[LINES], [columns_of(table) for table in web.tables])


def web_of_plain(prime, four):
    """The Web that the plain lists tell."""
    middle, tables = four
    if middle > GREATEST:
        raise BadWeb("sizes")
    sizes = tuple([len(columns) for columns in tables]) + (middle,)
    lines = [[[column[k] for column in columns] for k in range(middle)] for columns in tables]
    told = [Table(prime, middle, size, some) for size, some in zip(sizes, lines)]
    return Web(four_net(), prime, sizes, told)


def step_on(web):
    """The four whose middle is what all tables together lead to 0."""
    check_four(web)
    four, _, _ = stepped_on(web.prime, plain_four(web))
    return web_of_plain(web.prime, four)


def step_back(web):
    """The four whose middle is what all that the lines leave of the middle leaves in its turn."""
    check_four(web)
    four, _, _ = stepped_back(web.prime, plain_four(web))
    return web_of_plain(web.prime, four)


def _is_turn_name(prime, name):
    _, poly, e = name
    if not is_bare(prime, poly) or poly == (0, 1) or poly == (prime - 1, 1):
        return False
    return is_number(e) and e >= 1 and (len(poly) - 1) * e <= GREATEST_TURN


def names_four(prime, thing):
    """Whether thing, which may be anything, is the name of a least four over this prime."""
    if not isinstance(thing, tuple) or len(thing) not in (3, 4):
        return False
    word = thing[0]
    if len(thing) == 4:
        if not is_same("knot", word) or not is_number_to(thing[1], 2) or not is_number_to(thing[2], 1):
            return False
        return is_number_to(thing[3], GREATEST_KNOT) and thing[3] >= 1
    if is_same("turn", word):
        return _is_turn_name(prime, thing)
    if not is_same("early", word) and not is_same("late", word):
        return False
    return is_number_to(thing[1], GREATEST_STEP) and is_number_to(thing[2], LINES)


def is_four_name(prime, thing):
    """Whether thing, which may be anything, is the name of a least four over this prime."""
    check_prime(prime)
    return names_four(prime, thing)


def check_four_name(prime, name):
    """BadLeast unless name is that of a least four over this prime."""
    if not names_four(prime, name):
        raise BadLeast("the name of a least four is wanted")


def _stepped_sizes(name):
    """The sizes of an early or late one: a step loses nothing of them."""
    word, k, i = name
    if word == "early" or i == LINES:
        middle, lines = 1, [1 if line == i or word == "late" else 0 for line in range(LINES)]
    else:
        middle, lines = 0, [1 if line == i else 0 for line in range(LINES)]
    for _ in range(k):
        if word == "early":
            lines = [middle - size for size in lines]
            middle = sum(lines) - middle
        else:
            middle = sum(lines) - middle
            lines = [middle - size for size in lines]
    return tuple(lines) + (middle,)


def knot_lines(i, j):
    """The lines s, t, u, v of the knots of this name."""
    others = [line for line in range(3) if line != i]
    return [i, 3] + others if j == 0 else others + [i, 3]


def sizes_of_four(name):
    """The sizes of the least four of this name."""
    if name[0] == "knot":
        _, i, j, e = name
        s, t, _, _ = knot_lines(i, j)
        return tuple([(e + 1) // 2 if line in (s, t) else e // 2 for line in range(LINES)]) + (e,)
    if name[0] == "turn":
        size = (len(name[1]) - 1) * name[2]
        return (size, size, size, size, 2 * size)
    return _stepped_sizes(name)


def four_sizes(prime, name):
    """The sizes of the least four of this name."""
    check_prime(prime)
    check_four_name(prime, name)
    return sizes_of_four(name)


def base_four(word, i):
    """The plain four of size 1 from which the early or late ones of this line come."""
    if word == "early":
        return (1, [[[1]] if line == i else [] for line in range(LINES)])
    if i == LINES:
        return (1, [[[1]]] * LINES)
    return (0, [[[]] if line == i else [] for line in range(LINES)])


def _knot(prime, name):
    _, i, j, e = name
    c, f = (e + 1) // 2, e // 2
    s, t, u, v = knot_lines(i, j)
    ahead = [[1 if k == at else 0 for k in range(f)] for at in range(c)]
    behind = [[1 if k == at + 1 else 0 for k in range(c)] for at in range(f)]
    tables = {s: over([plain(prime, c), empty(prime, f, c)]), u: over([empty(prime, c, f), plain(prime, f)]),
              v: over([Table(prime, c, f, ahead), plain(prime, f)]),
              t: over([plain(prime, c), Table(prime, f, c, behind)])}
    return Web(four_net(), prime, sizes_of_four(name), [tables[line] for line in range(LINES)])


def _turn(prime, name):
    unit = plain(prime, (len(name[1]) - 1) * name[2])
    none = empty(prime, unit.tall, unit.tall)
    last = companion_of(prime, power_of(prime, name[1], name[2]))
    blocks = [(unit, none), (none, unit), (unit, unit), (unit, last)]
    return Web(four_net(), prime, sizes_of_four(name), [over(pair) for pair in blocks])


def web_of_four(prime, name):
    """The least four of this name."""
    if name[0] == "knot":
        return _knot(prime, name)
    if name[0] == "turn":
        return _turn(prime, name)
    four = base_four(name[0], name[2])
    for _ in range(name[1]):
        four, _, _ = stepped_back(prime, four) if name[0] == "early" else stepped_on(prime, four)
    return web_of_plain(prime, four)


def least_four(prime, name):
    """The least four of this name."""
    check_prime(prime)
    check_four_name(prime, name)
    return web_of_four(prime, name)


def are_four_names(prime, thing):
    """Whether thing, which may be anything, is a kind of fours over this prime."""
    if not isinstance(thing, tuple) or not all([names_four(prime, name) for name in thing]):
        return False
    return list(thing) == sorted(thing)


def are_fours(prime, thing):
    """Whether thing, which may be anything, is a kind of fours over this prime."""
    check_prime(prime)
    return are_four_names(prime, thing)


def check_four_kind(prime, kind):
    """BadKind unless kind is a kind of fours over this prime."""
    if not are_four_names(prime, kind):
        raise BadKind("an ascending tuple of names of least fours is wanted")


def sizes_of_four_kind(kind):
    """The sizes of the sum of the least fours of these names."""
    told = [sizes_of_four(name) for name in kind]
    return tuple([sum([sizes[place] for sizes in told]) for place in range(LINES + 1)])


def sum_of_four_names(prime, kind):
    """What sum_of_fours tells, of what surely is a kind."""
    if max(sizes_of_four_kind(kind)) > GREATEST:
        raise BadWeb("sizes")
    return sum_or_bare(four_net(), prime, [web_of_four(prime, name) for name in kind])


def sum_of_fours(prime, kind):
    """The sum of the least fours of the kind, in order."""
    check_prime(prime)
    check_four_kind(prime, kind)
    return sum_of_four_names(prime, kind)
