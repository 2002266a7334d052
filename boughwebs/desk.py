"""The desk: a loft that is led, and asked, by lines of words."""

from boughwebs.checks import is_number_to
from boughwebs.errors import BadNumber, BadPlace, BadTable, BadText, NotSo, WebError
from boughwebs.loft import Loft, own
from boughwebs.maps import count_maps
from boughwebs.nets import sinks, sources
from boughwebs.roots import check_good
from boughwebs.solving import rank
from boughwebs.splits import kind_of, whole_of
from boughwebs.tables import Table, empty, plain
from boughwebs.texts import kind_of_read, lines_of_web, number_in, numbers_in, pairs_in, read_web, text_of_kind

MOST_DIGITS = 4
UNKNOWN = "what"
WITHOUT_MORE = ("settle", "undo", "sizes", "own", "arrows", "sinks", "sources", "kind", "web")
WITH_NUMBER = ("fade", "mirror", "loose", "rank")
WITH_KIND = ("add", "maps", "from")


def _told(pieces):
    """The pieces joined by blanks, - for none."""
    return " ".join([str(piece) for piece in pieces]) if pieces else "-"


def _name_of(error):
    return error.__class__.__name__.lower()


class Desk:
    """A loft of the web that a text tells, led by lines."""

    def __init__(self, text):
        self.loft = Loft(read_web(text))

    def say(self, line):
        """The answer to a line, which may be anything."""
        if not isinstance(line, str):
            return UNKNOWN
        word, blank, rest = line.partition(" ")
        try:
            if word in WITHOUT_MORE and blank == "":
                return self._plain_answer(word)
            if word in WITH_NUMBER and number_in(rest, MOST_DIGITS) is not None:
                return self._number_answer(word, int(rest))
            if word in WITH_KIND and pairs_in(rest, MOST_DIGITS) is not None:
                return self._kind_answer(word, pairs_in(rest, MOST_DIGITS))
            if word == "put" and numbers_in(rest.split(" "), MOST_DIGITS) is not None:
                return self._put(numbers_in(rest.split(" "), MOST_DIGITS))
        except WebError as error:
            return "error " + _name_of(error)
        return UNKNOWN

    def _plain_answer(self, word):
        """The answer to a word alone."""
        web = self.loft.web
        if word == "settle":
            self.loft.settle()
            return "ok"
        if word == "undo":
            self.loft.undo()
            return "ok"
        if word == "sizes":
            return _told(web.sizes)
        if word == "own":
            return str(own(self.loft))
        if word == "arrows":
            return _told([f"{tail}>{head}" for tail, head in web.net.arrows])
        if word == "kind":
            return text_of_kind(kind_of(web))
        if word == "web":
            return "; ".join(lines_of_web(web))
        return _told(sinks(web.net) if word == "sinks" else sources(web.net))

    def _number_answer(self, word, number):
        """The answer to a word with a number."""
        if word == "rank":
            self._check_arrow(number)
            return str(rank(self.loft.web.tables[number]))
        if word == "fade":
            self.loft.fade(number)
        elif word == "mirror":
            self.loft.mirror(number)
        else:
            self._loose(number)
        return "ok"

    def _loose(self, place):
        """Loosens by the whole room at a sink."""
        web = self.loft.web
        if not is_number_to(place, web.net.places - 1):
            raise BadPlace("a place of the net is wanted")
        if place not in sinks(web.net):
            raise NotSo("a sink is wanted")
        self.loft.loosen(tuple([plain(web.prime, size) if k == place else empty(web.prime, size, 0)
                                for k, size in enumerate(web.sizes)]))

    def _kind_answer(self, word, pairs):
        """The answer to a word with the pairs of a kind."""
        web = self.loft.web
        check_good(web.net)
        kind = kind_of_read(web.net, pairs)
        if kind is None:
            raise BadText(0)
        whole = whole_of(web.net, web.prime, kind)
        if word == "maps":
            return str(count_maps(whole, web))
        if word == "from":
            return str(count_maps(web, whole))
        if kind:
            self.loft.add(whole)
        return "ok"

    def _check_arrow(self, at):
        if not is_number_to(at, len(self.loft.web.tables) - 1):
            raise BadNumber("at")

    def _put(self, numbers):
        """Puts the Table of the numbers behind the first one along the arrow that this tells."""
        at, told = numbers[0], numbers[1:]
        self._check_arrow(at)
        old = self.loft.web.tables[at]
        if len(told) != old.tall * old.wide or not all([number < old.prime for number in told]):
            raise BadTable("the numbers are not as many as the sizes ask, or not below the prime")
        lines = [told[k * old.wide:(k + 1) * old.wide] for k in range(old.tall)]
        self.loft.put(at, Table(old.prime, old.tall, old.wide, lines))
        return "ok"
