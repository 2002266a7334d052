"""Nets: places with arrows between them, that nowhere lead back."""

from boughwebs.checks import is_list, is_number, is_number_to
from boughwebs.errors import BadNet, BadPlace, BadRow

MOST_PLACES = 8
MOST_ARROWS = 12


def _are_arrows(places, thing):
    if not is_list(thing) or len(thing) > MOST_ARROWS:
        return False
    for arrow in thing:
        if not is_list(arrow) or len(arrow) != 2:
            return False
        if not all([is_number_to(end, places - 1) for end in arrow]) or arrow[0] == arrow[1]:
            return False
    return True


def _hangs_together(places, arrows):
    """Whether each place can be come to from place 0 along arrows in any direction."""
    found = {0: True}
    for _ in range(places):
        for tail, head in arrows:
            if tail in found or head in found:
                found[tail] = True
                found[head] = True
    return len(found) == places


def places_behind(places, arrows):
    """The least list in which each place stands behind all to which its arrows lead.

    Places that lie on a way that leads back, or from which one can be come to, are not in it.
    """
    order = []
    for _ in range(places):
        ready = [place for place in range(places) if place not in order
                 and all([head in order for tail, head in arrows if tail == place])]
        if ready:
            order.append(ready[0])
    return order


class Net:
    """A net of arrows between places; arrows are pairs (tail, head)."""

    def __init__(self, places, arrows):
        if not is_number(places) or not 1 <= places <= MOST_PLACES:
            raise BadNet("places")
        if not _are_arrows(places, arrows) or not _hangs_together(places, arrows):
            raise BadNet("arrows")
        if len(places_behind(places, arrows)) != places:
            raise BadNet("arrows")
        self.places = places
        self.arrows = tuple([tuple(arrow) for arrow in arrows])

    def __eq__(self, other):
        return isinstance(other, Net) and self.places == other.places and self.arrows == other.arrows


def check_net(net):
    """BadNet(None) unless net is a Net."""
    if not isinstance(net, Net):
        raise BadNet(None)


def check_place(net, place):
    """BadPlace unless place is a place of the net."""
    if not is_number_to(place, net.places - 1):
        raise BadPlace("a place of the net is wanted")


def is_row(net, thing):
    """Whether thing is a tuple of numbers, one for each place."""
    return isinstance(thing, tuple) and len(thing) == net.places and all([is_number(number) for number in thing])


def check_row(net, row):
    """BadRow unless row is a row of the net."""
    if not is_row(net, row):
        raise BadRow("a tuple of numbers is wanted, one for each place")


def unit_row(net, place):
    """The row with 1 at the place alone."""
    return tuple([1 if k == place else 0 for k in range(net.places)])


def sinks(net):
    """The places without an arrow that leads away."""
    check_net(net)
    tails = [tail for tail, head in net.arrows]
    return [place for place in range(net.places) if place not in tails]


def sources(net):
    """The places without an arrow that leads in."""
    check_net(net)
    heads = [head for tail, head in net.arrows]
    return [place for place in range(net.places) if place not in heads]


def is_tree(net):
    """Whether there is one arrow less than places."""
    check_net(net)
    return len(net.arrows) == net.places - 1


def turned_net(net):
    """The net with all arrows the other way."""
    check_net(net)
    return Net(net.places, [(head, tail) for tail, head in net.arrows])


def sink_order(net):
    """The least list of all places in which each stands behind all to which its arrows lead."""
    return places_behind(net.places, net.arrows)
