"""Words: lists of places, each a sink of the net that the mirrors at those before have made."""

from boughwebs.checks import is_list, is_number_to
from boughwebs.errors import BadRow, NotSo, OtherNet
from boughwebs.mirrors import mirrored
from boughwebs.nets import Net, check_net, check_row, is_row, sink_order, unit_row
from boughwebs.roots import other_ends
from boughwebs.webs import check_web

MOST_LETTERS = 400
MOST_TIMES = 50


def flipped(arrows, place):
    """The pairs of the arrows with those at the place the other way."""
    return [(head, tail) if place in (tail, head) else (tail, head) for tail, head in arrows]


def is_end(arrows, place):
    """Whether no arrow leads away from the place."""
    return not any([tail == place for tail, head in arrows])


def _arrows_after(net, thing):
    """The arrows behind the mirrors at the places of a word; None for what is no word on the net."""
    if not is_list(thing) or len(thing) > MOST_LETTERS:
        return None
    arrows = list(net.arrows)
    for place in thing:
        if not is_number_to(place, net.places - 1) or not is_end(arrows, place):
            return None
        arrows = flipped(arrows, place)
    return arrows


def is_word(net, thing):
    """Whether thing, which may be anything, is a word on the net."""
    check_net(net)
    return _arrows_after(net, thing) is not None


def check_word(net, word):
    """NotSo unless word is a word on the net; the arrows behind its mirrors."""
    arrows = _arrows_after(net, word)
    if arrows is None:
        raise NotSo("a list of places is wanted, each a sink when it is mirrored")
    return arrows


def net_after(net, word):
    """The net that the mirrors at the places of the word make, one behind the other."""
    check_net(net)
    return Net(net.places, check_word(net, word))


def _row_along(net, places, row):
    """The row mirrored at these places, one behind the other."""
    ends = other_ends(net)
    found = list(row)
    for place in places:
        found[place] = sum([found[k] for k in ends[place]]) - found[place]
    return tuple(found)


def row_after(net, word, row):
    """The row that the mirrors at the places of the word make, one behind the other."""
    check_net(net)
    check_word(net, word)
    check_row(net, row)
    return _row_along(net, word, row)


def row_before(net, word, row):
    """The row mirrored at the places of the word, the last one first."""
    check_net(net)
    check_word(net, word)
    check_row(net, row)
    return _row_along(net, list(reversed(word)), row)


def unit_rows(net):
    """For each place the row with 1 there alone: what row_before makes of it for the word []."""
    return [unit_row(net, place) for place in range(net.places)]


def rows_further(ends, rows, place):
    """What row_before makes of the unit rows for a word with this place behind it.

    Given is what it makes of them for the word, and other_ends: the row mirrored first, at the
    place, is the unit row of the place negated, or has 1 more there for each arrow to it.
    """
    met = rows[place]
    found = list(rows)
    found[place] = tuple([0 - number for number in met])
    for near in ends[place]:
        found[near] = tuple([a + b for a, b in zip(found[near], met)])
    return found


def rows_met(net, word):
    """For each place of the word what row_before makes, for the places before it, of the row with 1 there alone."""
    ends = other_ends(net)
    rows = unit_rows(net)
    found = []
    for place in word:
        found.append(rows[place])
        rows = rows_further(ends, rows, place)
    return found


def web_after(web, word):
    """The web that the mirrors at the places of the word make, one behind the other."""
    check_web(web)
    check_word(web.net, word)
    for place in word:
        web = mirrored(web, place)
    return web


def web_before(net, word, web):
    """The web of net that comes of mirrors at the places of the word, the last one first."""
    check_net(net)
    check_web(web)
    arrows = check_word(net, word)
    if web.net.places != net.places or web.net.arrows != tuple(arrows):
        raise OtherNet("the web is not one of the net behind the word")
    for place in reversed(word):
        web = mirrored(web, place)
    return web


def word_with(net, counts):
    """The least word in which each place comes as often as counts tells; None if there is none.

    Whichever sink is mirrored next, as long as it has to be, the same places can follow in the end.
    """
    check_net(net)
    if not is_row(net, counts) or not all([is_number_to(many, MOST_TIMES) for many in counts]):
        raise BadRow("numbers from 0 to 50 are wanted, one for each place")
    left = list(counts)
    arrows = list(net.arrows)
    word = []
    while any(left):
        ready = [place for place in range(net.places) if left[place] and is_end(arrows, place)]
        if not ready:
            return None
        word.append(ready[0])
        left[ready[0]] -= 1
        arrows = flipped(arrows, ready[0])
    return word


def _are_same_ends(net, other):
    if net.places != other.places or len(net.arrows) != len(other.arrows):
        return False
    return all([sorted(arrow) == sorted(end) for arrow, end in zip(net.arrows, other.arrows)])


def _counts_to(net, other):
    """How often each place comes in a shortest word that leads net to other; None if there is no word.

    Along an arrow that has to be turned the head comes once more than the tail, along all others
    as often.
    """
    counts = {0: 0}
    for _ in range(net.places):
        for (tail, head), arrow in zip(net.arrows, other.arrows):
            more = 0 if arrow == (tail, head) else 1
            if tail in counts:
                counts.setdefault(head, counts[tail] + more)
            elif head in counts:
                counts[tail] = counts[head] - more
    for (tail, head), arrow in zip(net.arrows, other.arrows):
        if counts[head] - counts[tail] != (0 if arrow == (tail, head) else 1):
            return None
    least = min(list(counts.values()))
    return tuple([counts[place] - least for place in range(net.places)])


def word_to(net, other):
    """The least of the shortest words that lead net to other; None if there is none."""
    check_net(net)
    check_net(other)
    if not _are_same_ends(net, other):
        raise OtherNet("the arrows of both nets do not join the same places")
    counts = _counts_to(net, other)
    return None if counts is None else word_with(net, counts)


def sink_word(net):
    """The least word in which each place comes once; it leads the net to itself."""
    check_net(net)
    return sink_order(net)


def shifted_web(web):
    """The web mirrored at all places, along the sink word."""
    check_web(web)
    return web_after(web, sink_word(web.net))


def unshifted_web(web):
    """The web of which shifted_web may come: mirrored along the sink word, the last place first."""
    check_web(web)
    return web_before(web.net, sink_word(web.net), web)


def shifted_row(net, row):
    """The row mirrored at all places, along the sink word."""
    return row_after(net, sink_word(net), row)


def unshifted_row(net, row):
    """The row mirrored along the sink word, the last place first."""
    return row_before(net, sink_word(net), row)
