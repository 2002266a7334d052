"""The live loft: work on a web, deed by deed, all of which can be taken back."""

from boughwebs.checks import is_list, is_number_to
from boughwebs.errors import BadLoft, BadNumber, BadTable, NothingDone
from boughwebs.kinds import kind_of_pairs
from boughwebs.maps import count_maps
from boughwebs.mirrors import mirrored
from boughwebs.nets import sink_order, unit_row
from boughwebs.parts import is_part_of, part_web, rest_of_part
from boughwebs.roots import check_good, mirrored_row
from boughwebs.splits import kind_of, whole_of
from boughwebs.tables import empty, is_sized, plain
from boughwebs.webs import Web, changed, check_web, sum_of

# The deeds behind which the kind is told by that ahead.
TELLING = ("add", "turn", "mirror", "settle")


def web_with_table(web, at, table):
    """The web with another table along the arrow."""
    tables = [table if k == at else some for k, some in enumerate(web.tables)]
    return Web(web.net, web.prime, web.sizes, tables)


def loosened_by(web, part):
    """The sum of the webs of the part and of what is left; BadPart for what is no part."""
    some, _ = part_web(web, part)
    rest, _ = rest_of_part(web, part)
    return sum_of([some, rest])


def settled(web):
    """The sum of the least webs of the web's kind."""
    return whole_of(web.net, web.prime, kind_of(web))


class Loft:
    """A web to work on: the first one, the one that stands, and the deeds that lead from one to the other."""

    def __init__(self, web):
        check_web(web)
        self.first = web
        self.web = web
        self._deeds = []
        self._webs = []

    def __eq__(self, other):
        return isinstance(other, Loft) and self.first == other.first and self._deeds == other._deeds

    def __len__(self):
        return len(self._deeds)

    def _stand(self, deeds, webs):
        self._deeds = deeds
        self._webs = webs
        self.web = webs[-1] if webs else self.first

    def _done(self, deed, web):
        self._stand(self._deeds + [deed], self._webs + [web])

    def _check_arrow(self, at):
        if not is_number_to(at, len(self.web.tables) - 1):
            raise BadNumber("at")

    def add(self, other):
        """The web becomes the sum of it and another one."""
        self._done(("add", other), sum_of([self.web, other]))

    def turn(self, coordinates):
        """The web is told in new coordinates."""
        web = changed(self.web, coordinates)
        self._done(("turn", tuple(coordinates)), web)

    def put(self, at, table):
        """Another table is put along the arrow."""
        self._check_arrow(at)
        old = self.web.tables[at]
        if not is_sized(table, old.prime, old.tall, old.wide):
            raise BadTable("a Table of the sizes at the arrow's ends is wanted")
        self._done(("put", at, table), web_with_table(self.web, at, table))

    def fade(self, at):
        """The table along the arrow becomes 0."""
        self._check_arrow(at)
        old = self.web.tables[at]
        self._done(("fade", at), web_with_table(self.web, at, empty(old.prime, old.tall, old.wide)))

    def loosen(self, part):
        """The web becomes the sum of the part's web and of what is left."""
        self._done(("loosen", part), loosened_by(self.web, part))

    def keep(self, part):
        """The web of the part stays alone."""
        web, _ = part_web(self.web, part)
        self._done(("keep", part), web)

    def lose(self, part):
        """What is left without the part stays alone."""
        web, _ = rest_of_part(self.web, part)
        self._done(("lose", part), web)

    def mirror(self, place):
        """The web is mirrored at a sink or a source."""
        self._done(("mirror", place), mirrored(self.web, place))

    def settle(self):
        """The web becomes the sum of least webs to which it is alike."""
        self._done(("settle",), settled(self.web))

    def undo(self):
        """The last deed that stands is taken back."""
        if not self._deeds:
            raise NothingDone("no deed stands")
        self._stand(self._deeds[:-1], self._webs[:-1])

    def attempt(self, work):
        """What work, called with the loft, returns; if it raises, all stands again as it did before."""
        deeds, webs, web = self._deeds, self._webs, self.web
        fine = None
        try:
            found = work(self)
            fine = True
        finally:
            if fine is None:
                self._deeds, self._webs, self.web = deeds, webs, web
        return found

    def log(self):
        """The list of the deeds that stand."""
        return list(self._deeds)

    def copy(self):
        """A loft of its own with the same first web and log."""
        found = Loft(self.first)
        found._stand(list(self._deeds), list(self._webs))
        return found

    def webs(self):
        """The first web and those behind each deed that stands."""
        return [self.first] + self._webs


def check_loft(loft):
    """BadLoft unless loft is a Loft."""
    if not isinstance(loft, Loft):
        raise BadLoft("a Loft is wanted")


def own(loft):
    """How many maps to itself the web has of which all others are sums of multiples."""
    check_loft(loft)
    return count_maps(loft.web, loft.web)


def owns(loft):
    """The list of these numbers for the first web and behind each deed that stands."""
    check_loft(loft)
    return [count_maps(web, web) for web in loft.webs()]


def _mirrored_kind(net, kind, place):
    """The kind of a mirrored web: the points of the place are dropped, all other roots are mirrored."""
    lone = unit_row(net, place)
    return kind_of_pairs([(mirrored_row(net, place, root), many) for root, many in kind.items() if root != lone])


def _kind_behind(ahead, kind, deed):
    """The kind of the web behind a deed that tells it, from the web ahead and its kind."""
    if deed[0] == "add":
        return kind_of_pairs(list(kind.items()) + list(kind_of(deed[1]).items()))
    # Neither coordinates nor what settles a web change its kind.
    return _mirrored_kind(ahead.net, kind, deed[1]) if deed[0] == "mirror" else kind


def told_kind(loft):
    """The kind of the web, told by the deeds from that of the first one, or of the one behind the last other deed.

    Behind tables that are put and parts that are taken the kind ahead tells nothing.
    """
    check_loft(loft)
    check_good(loft.web.net)
    deeds, webs = loft.log(), loft.webs()
    start = len(deeds)
    while start and deeds[start - 1][0] in TELLING:
        start -= 1
    kind = kind_of(webs[start])
    for at in range(start, len(deeds)):
        kind = _kind_behind(webs[at], kind, deeds[at])
    return kind


def _is_bare(web):
    return not any([number for table in web.tables for line in table.lines for number in line])


def loosening(loft):
    """The parts by which the web may be loosened until all tables are 0: the rooms into which something leads.

    Each room is a part of its own as soon as nothing leads on from it.
    """
    check_loft(loft)
    web = loft.web
    found = []
    for place in sink_order(web.net):
        tables = [table for table, (tail, head) in zip(web.tables, web.net.arrows) if head == place]
        if any([number for table in tables for line in table.lines for number in line]):
            found.append(tuple([plain(web.prime, size) if k == place else empty(web.prime, size, 0)
                                for k, size in enumerate(web.sizes)]))
    return found


def is_loosening(loft, thing):
    """Whether thing, which may be anything, is a list of such parts, or the tuple of its parts."""
    check_loft(loft)
    if not is_list(thing):
        return False
    web = loft.web
    many = count_maps(web, web)
    for part in thing:
        if not is_part_of(web, part):
            return False
        web = loosened_by(web, part)
        ahead, many = many, count_maps(web, web)
        if many <= ahead:
            return False
    return _is_bare(web)
