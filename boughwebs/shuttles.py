"""Straight webs: led on by some steps, and the maps there and back that show how near two of them are."""

from boughwebs.bars import bars_of, covers, split_line
from boughwebs.errors import BadMaps, NotStraight, OtherNet
from boughwebs.maps import behind, image_web, leads, map_back
from boughwebs.nearness import check_step, least_step, matched_or_barred, straight_net
from boughwebs.tables import Table, empty, plain, times
from boughwebs.webs import Web


def _check_straight(web):
    if not isinstance(web, Web) or web.net != straight_net(web.net.places):
        raise NotStraight("a web of a straight net is wanted")


def _check_both(one, other):
    _check_straight(one)
    _check_straight(other)
    if one.net != other.net or one.prime != other.prime:
        raise OtherNet("the webs are not of one net and prime")


def _size_at(web, place):
    """The size of the room at the place, 0 beyond the last one."""
    return web.sizes[place] if place < web.net.places else 0


def _table_from(web, place):
    """The table along the arrow from the place, also beyond the last one."""
    if place < web.net.places - 1:
        return web.tables[place]
    return empty(web.prime, _size_at(web, place + 1), _size_at(web, place))


def _led_on(web, place, steps):
    """What leads along so many arrows from the place."""
    found = plain(web.prime, _size_at(web, place))
    for k in range(min(steps, web.net.places - place)):
        found = times(_table_from(web, place + k), found)
    return found


def _shifted(web, step):
    places = web.net.places
    sizes = tuple([_size_at(web, place + step) for place in range(places)])
    return Web(web.net, web.prime, sizes, [_table_from(web, place + step) for place in range(places - 1)])


def shifted(web, step):
    """The web whose room and tables at each place are those so many places on."""
    _check_straight(web)
    check_step(step)
    return _shifted(web, step)


def _onward(web, steps):
    return tuple([_led_on(web, place, steps) for place in range(web.net.places)])


def onward(web, step):
    """The map from the web to the shifted one that leads along so many arrows."""
    _check_straight(web)
    check_step(step)
    return _onward(web, step)


def _shifted_map(one, mapping, step):
    """The Tables of the map so many places on; beyond the last one they are empty."""
    beyond = [empty(one.prime, 0, 0)] * step
    return (mapping + tuple(beyond))[step:step + one.net.places]


def shifted_map(one, other, mapping, step):
    """The map between the shifted webs that the map makes."""
    _check_both(one, other)
    if not leads(one, other, mapping):
        raise BadMaps("a map from one to other is wanted")
    check_step(step)
    return _shifted_map(one, mapping, step)


def _lead_onward(one, other, there, back, step):
    """Whether there and then back, shifted, lead along twice so many arrows."""
    return behind(there, _shifted_map(other, back, step)) == _onward(one, 2 * step)


def is_shuttle(one, other, step, thing):
    """Whether thing, which may be anything, is a shuttle of this step."""
    _check_both(one, other)
    check_step(step)
    if not isinstance(thing, tuple) or len(thing) != 2:
        return False
    there, back = thing
    if not leads(one, _shifted(other, step), there) or not leads(other, _shifted(one, step), back):
        return False
    return _lead_onward(one, other, there, back, step) and _lead_onward(other, one, back, there, step)


def _table_of_pairs(prime, firsts, seconds):
    """1 for each pair of bars that is in both lists, told by their numbers; 0 elsewhere.

    A list has, for each coordinate of a room, the number of the pair to which its bar belongs, or None.
    """
    lines = [[1 if first == second and first is not None else 0 for first in firsts] for second in seconds]
    return Table(prime, len(seconds), len(firsts), lines)


def _numbers_of_pairs(bars, paired):
    """For each of the bars the number of the pair to which it belongs, or None; equal ones in turn."""
    found = [None] * len(bars)
    for number, bar in enumerate(paired):
        free = [at for at, other in enumerate(bars) if other == bar and found[at] is None]
        found[free[0]] = number
    return found


def _at_place(bars, numbers, place):
    """The numbers of the pairs of those bars that cover the place."""
    return [number for bar, number in zip(bars, numbers) if covers(bar, place)]


def _map_of_pairs(one, other, step, told):
    """The map from one to the shifted other that leads each bar to the one with which it is paired.

    For both webs is told: the bars, coordinates in which the web is their sum, and numbers of pairs.
    """
    (bars, coordinates, numbers), (others, other_coordinates, other_numbers) = told
    backs = map_back(other_coordinates)
    found = []
    for place in range(one.net.places):
        if place + step < one.net.places:
            firsts, seconds = _at_place(bars, numbers, place), _at_place(others, other_numbers, place + step)
            table = _table_of_pairs(one.prime, firsts, seconds)
            found.append(times(backs[place + step], times(table, coordinates[place])))
        else:
            found.append(empty(one.prime, 0, one.sizes[place]))
    return tuple(found)


def shuttle(one, other, step):
    """A shuttle of this step; None if there is none."""
    _check_both(one, other)
    check_step(step)
    bars, coordinates = split_line(one)
    others, other_coordinates = split_line(other)
    name, pairs = matched_or_barred(bars, others, step)
    if name != "pairing":
        return None
    first = (bars, coordinates, _numbers_of_pairs(bars, [pair[0] for pair in pairs]))
    second = (others, other_coordinates, _numbers_of_pairs(others, [pair[1] for pair in pairs]))
    return (_map_of_pairs(one, other, step, (first, second)), _map_of_pairs(other, one, step, (second, first)))


def nearness(one, other):
    """The least step of which there is a shuttle."""
    _check_both(one, other)
    return least_step(bars_of(one), bars_of(other))


def _longest_beside(image, bars):
    """For each bar of the image the one that lies beside it: of those that start alike, longest beside longest."""
    found = [None] * len(image)
    for start in sorted({bar[0]: True for bar in image}):
        own = sorted([(0 - bar[1], at) for at, bar in enumerate(image) if bar[0] == start])
        across = sorted([(0 - bar[1], bar) for bar in bars if bar[0] == start])
        for (_, at), (_, bar) in zip(own, across):
            found[at] = bar
    return found


def _first_beside(image, bars, step):
    """Likewise for other's bars: of those that stop the step farther, first to start beside first to start."""
    found = [None] * len(image)
    for stop in sorted({bar[1]: True for bar in image}):
        own = sorted([(bar[0], at) for at, bar in enumerate(image) if bar[1] == stop])
        across = sorted([bar for bar in bars if bar[1] == stop + step])
        for (_, at), bar in zip(own, across):
            found[at] = bar
    return found


def led_pairs(one, other, step, there):
    """The pairs of bars that a map from one to the shifted other lays beside the bars of its image."""
    _check_both(one, other)
    check_step(step)
    goal = _shifted(other, step)
    if not leads(one, goal, there):
        raise BadMaps("a map from one to the shifted other is wanted")
    image = bars_of(image_web(one, goal, there)[0])
    firsts = _longest_beside(image, bars_of(one))
    seconds = _first_beside(image, bars_of(other), step)
    return tuple(sorted(list(zip(firsts, seconds))))


def rank_rows(web):
    """For each place the ranks of what leads from it to each place from it on."""
    _check_straight(web)
    bars = bars_of(web)
    places = web.net.places
    return tuple([tuple([len([bar for bar in bars if covers(bar, start) and covers(bar, stop)])
                         for stop in range(start, places)]) for start in range(places)])
