"""How near rows of bars are to one another: pairings of some step, and what bars them."""

from boughwebs.bars import are_bars_to, check_bars_to
from boughwebs.checks import is_number, is_number_to
from boughwebs.errors import BadBars, BadNumber
from boughwebs.nets import MOST_PLACES, Net

MOST_NEAR = 40
GREATEST_STEP = 8


def straight_net(places):
    """The net of so many places with the arrows (0, 1), (1, 2) and so on."""
    if not is_number(places) or not 1 <= places <= MOST_PLACES:
        raise BadNumber("places")
    return Net(places, [(place, place + 1) for place in range(places - 1)])


def _check_bars(bars):
    check_bars_to(bars, MOST_PLACES - 1)
    if len(bars) > MOST_NEAR:
        raise BadBars(None)


def check_step(step):
    """BadNumber("step") unless step is a number from 0 to 8."""
    if not is_number_to(step, GREATEST_STEP):
        raise BadNumber("step")


def _check_both(one, other, step):
    _check_bars(one)
    _check_bars(other)
    check_step(step)


def _is_long(bar, step):
    """Whether the bar is longer than twice the step."""
    return bar[1] - bar[0] + 1 > 2 * step


def _are_near(one, other, step):
    return abs(one[0] - other[0]) <= step and abs(one[1] - other[1]) <= step


def _counts(items):
    found = {}
    for item in items:
        found[item] = found.get(item, 0) + 1
    return found


def _no_more(some, counts):
    """Whether none of these comes more often than the counts tell."""
    return all([many <= counts.get(item, 0) for item, many in _counts(some).items()])


def _is_for_one_side(bars, some, step):
    """Whether those paired are among these bars, and all bars left over at most twice the step long."""
    if not _no_more(some, _counts(bars)):
        return False
    paired = _counts(some)
    left = [bar for bar, many in _counts(bars).items() if many > paired.get(bar, 0)]
    return not any([_is_long(bar, step) for bar in left])


def _are_pairs(thing):
    """Whether thing, which may be anything, is an ascending tuple of pairs of bars."""
    if not isinstance(thing, tuple):
        return False
    for pair in thing:
        if not isinstance(pair, tuple) or len(pair) != 2:
            return False
        if not all([are_bars_to((bar,), MOST_PLACES - 1) for bar in pair]):
            return False
    return list(thing) == sorted(thing)


def is_pairing(one, other, step, thing):
    """Whether thing, which may be anything, is a pairing of this step."""
    _check_both(one, other, step)
    if not _are_pairs(thing) or not all([_are_near(first, second, step) for first, second in thing]):
        return False
    return (_is_for_one_side(one, [first for first, _ in thing], step)
            and _is_for_one_side(other, [second for _, second in thing], step))


class Matching:
    """Two rows of bars, which of them are near one another, and which are paired so far.

    Of near and pairs there is one for each side; pairs lead from indexes to those of the other side.
    """

    def __init__(self, one, other, step):
        self.step = step
        self.sides = (one, other)
        self.near = ([[k for k, second in enumerate(other) if _are_near(first, second, step)] for first in one],
                     [[k for k, first in enumerate(one) if _are_near(first, second, step)] for second in other])
        self.pairs = ({}, {})


def _pair_along(matching, side, came, at):
    """Pairs the bar at this index of the other side with the one from which it was come to, and so on back.

    Each bar on the way leaves the one with which it was paired to the bar before.
    """
    own, back = matching.pairs[side], matching.pairs[1 - side]
    while at is not None:
        first = came[at]
        after = own.get(first)
        own[first] = at
        back[at] = first
        at = after


def _barring(matching, side, start, lets_go):
    """Pairs the bar at this index of the side; [] if that is done, otherwise the indexes of all that bar it.

    Bars already paired take others instead. If it lets go, one that is not long is left over for it.
    """
    own, back = matching.pairs[side], matching.pairs[1 - side]
    reached = [start]
    came = {}
    done = 0
    while done < len(reached):
        first = reached[done]
        done += 1
        fresh = [at for at in matching.near[side][first] if at not in came]
        for at in fresh:
            came[at] = first
            taken = back.get(at)
            if taken is None or (lets_go and not _is_long(matching.sides[side][taken], matching.step)):
                if taken is not None:
                    del own[taken]
                _pair_along(matching, side, came, at)
                return []
            reached.append(taken)
    return reached


def matched_or_barred(one, other, step):
    """("pairing", pairing) or ("barrier", barrier), of surely ascending bars, however many.

    First all long bars of one are paired. Then those of other are, and all of one stay paired: only
    bars of other that are not long are let go. A bar that cannot be paired, and all that bar it,
    are one more than all that are near them.
    """
    matching = Matching(one, other, step)
    for side, bars in enumerate(matching.sides):
        for at, bar in enumerate(bars):
            if _is_long(bar, step) and at not in matching.pairs[side]:
                reached = _barring(matching, side, at, side == 1)
                if reached:
                    return ("barrier", (side, tuple(sorted([bars[k] for k in reached]))))
    return ("pairing", tuple(sorted([(one[at], other[to]) for at, to in matching.pairs[0].items()])))


def pairing(one, other, step):
    """A pairing of this step; None if there is none."""
    _check_both(one, other, step)
    name, found = matched_or_barred(one, other, step)
    return found if name == "pairing" else None


def barrier(one, other, step):
    """A barrier of this step; None if there is none."""
    _check_both(one, other, step)
    name, found = matched_or_barred(one, other, step)
    return found if name == "barrier" else None


def is_barrier(one, other, step, thing):
    """Whether thing, which may be anything, is a barrier of this step."""
    _check_both(one, other, step)
    if not isinstance(thing, tuple) or len(thing) != 2 or not is_number_to(thing[0], 1):
        return False
    side, some = thing
    if not are_bars_to(some, MOST_PLACES - 1) or len(some) == 0:
        return False
    own, across = (one, other) if side == 0 else (other, one)
    if not _no_more(some, _counts(own)) or not all([_is_long(bar, step) for bar in some]):
        return False
    return len([bar for bar in across if any([_are_near(bar, first, step) for first in some])]) < len(some)


def least_step(one, other):
    """What distance tells, of surely ascending bars, however many."""
    step = 0
    while matched_or_barred(one, other, step)[0] != "pairing":
        step += 1
    return step


def distance(one, other):
    """The least step of which there is a pairing."""
    _check_bars(one)
    _check_bars(other)
    return least_step(one, other)


def _moved(one, other, part):
    """The number, moved by at most part towards other."""
    return max(one - part, min(one + part, other))


def _shrunk(bars, some, part):
    """The bars without these, each shorter by part at both ends, as far as anything is left of them."""
    left = list(bars)
    for bar in some:
        left.remove(bar)
    return [(start + part, stop - part) for start, stop in left if stop - start + 1 > 2 * part]


def bars_between(one, other, part):
    """Bars that are part away from one, and the rest of the distance from other."""
    _check_bars(one)
    _check_bars(other)
    whole = least_step(one, other)
    if not is_number_to(part, whole):
        raise BadNumber("part")
    _, pairs = matched_or_barred(one, other, whole)
    found = [tuple([_moved(a, b, part) for a, b in zip(first, second)]) for first, second in pairs]
    found = found + _shrunk(one, [first for first, _ in pairs], part)
    return tuple(sorted(found + _shrunk(other, [second for _, second in pairs], whole - part)))
