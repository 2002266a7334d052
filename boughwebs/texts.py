"""Texts of nets, tables, webs and kinds, there and back: each thing has one text."""

from boughwebs.errors import BadText, BadWeb
from boughwebs.kinds import check_kind
from boughwebs.nets import Net, check_net
from boughwebs.roots import check_good, is_root
from boughwebs.tables import GREATEST, Table, check_prime, check_table, is_prime
from boughwebs.webs import Web, check_web

MOST_DIGITS = 9


def number_in(word, digits):
    """The number that the word is, as Python writes it, of at most so many digits; None for any other word."""
    if not word.isdigit() or not word.isascii() or len(word) > digits:
        return None
    if word[0] == "0" and len(word) > 1:
        return None
    return int(word)


def numbers_in(words, digits):
    """The list of the numbers that the words are; None if one is none."""
    found = [number_in(word, digits) for word in words]
    return None if any([number is None for number in found]) else found


class Lines:
    """The lines of a text, read one behind another."""

    def __init__(self, text):
        pieces = text.split("\n") if isinstance(text, str) else [""]
        # What stands behind the last line feed is not ended.
        self.lines = pieces[:-1]
        self.loose = len(pieces[-1]) > 0
        self.at = 0

    def words(self):
        """The words of the line that is due; BadText if it is missing or not ended."""
        if self.at >= len(self.lines):
            raise BadText(self.at)
        return self.lines[self.at].split(" ")

    def numbers(self, ahead, many):
        """The numbers of the line that is due: the words ahead, then so many numbers, and nothing else."""
        words = self.words()
        found = numbers_in(words[len(ahead):], MOST_DIGITS)
        if words[:len(ahead)] != ahead or found is None or len(found) != many:
            raise BadText(self.at)
        self.at += 1
        return found

    def row(self, prime, wide):
        """The so many numbers below the prime of the line that is due."""
        if self.words() == [""] and wide == 0:
            self.at += 1
            return []
        found = self.numbers([], wide)
        if max(found) >= prime:
            raise BadText(self.at - 1)
        return found

    def rows(self, prime, tall, wide):
        """The lines of a table."""
        found = []
        while len(found) < tall:
            found.append(self.row(prime, wide))
        return found

    def has_more(self):
        """Whether there is a line that has not been read, ended or not."""
        return self.at < len(self.lines) or self.loose

    def end(self):
        """BadText if there is a line that has not been read."""
        if self.has_more():
            raise BadText(self.at)


def _joined(numbers):
    return " ".join([str(number) for number in numbers])


def _ended(lines):
    return "".join([line + "\n" for line in lines])


def _net_lines(net):
    return [f"places {net.places}"] + [f"arrow {tail} {head}" for tail, head in net.arrows]


def net_text(net):
    """The text of the net."""
    check_net(net)
    return _ended(_net_lines(net))


def read_net(text):
    """The Net that the text tells."""
    lines = Lines(text)
    places = lines.numbers(["places"], 1)
    arrows = []
    while lines.has_more():
        arrows.append(lines.numbers(["arrow"], 2))
    return Net(places[0], arrows)


def _table_lines(table):
    return [_joined(line) for line in table.lines]


def table_text(table):
    """The text of the Table."""
    check_table(table)
    return _ended([f"table {table.prime} {table.tall} {table.wide}"] + _table_lines(table))


def read_table(text):
    """The Table that the text tells."""
    lines = Lines(text)
    prime, tall, wide = lines.numbers(["table"], 3)
    check_prime(prime)
    found = lines.rows(prime, tall, wide)
    lines.end()
    return Table(prime, tall, wide, found)


def lines_of_web(web):
    """The lines of the Web's text."""
    found = _net_lines(web.net) + [f"prime {web.prime}", "sizes " + _joined(web.sizes)]
    for table in web.tables:
        found = found + _table_lines(table)
    return found


def web_text(web):
    """The text of the Web."""
    check_web(web)
    return _ended(lines_of_web(web))


def read_web(text):
    """The Web that the text tells."""
    lines = Lines(text)
    places = lines.numbers(["places"], 1)
    arrows = []
    while lines.words()[0] != "prime":
        arrows.append(lines.numbers(["arrow"], 2))
    net = Net(places[0], arrows)
    prime = lines.numbers(["prime"], 1)[0]
    sizes = lines.numbers(["sizes"], net.places)
    if not is_prime(prime):
        raise BadWeb("prime")
    if max(sizes) > GREATEST:
        raise BadWeb("sizes")
    tables = [Table(prime, sizes[head], sizes[tail], lines.rows(prime, sizes[head], sizes[tail]))
              for tail, head in net.arrows]
    lines.end()
    return Web(net, prime, tuple(sizes), tables)


def text_of_kind(kind):
    """What kind_text tells, of what surely is a kind."""
    pieces = []
    for root in sorted(kind):
        row = ",".join([str(number) for number in root])
        pieces.append(f"{kind[root]}*{row}")
    return " + ".join(pieces) if pieces else "0"


def kind_text(net, kind):
    """The text of the kind."""
    check_good(net)
    check_kind(net, kind)
    return text_of_kind(kind)


def pairs_in(text, digits):
    """The pairs (number, tuple of numbers) that the text of a kind tells, of whatever net; None for any other text."""
    if text == "0":
        return []
    found = []
    for piece in text.split(" + "):
        many, star, row = piece.partition("*")
        numbers = numbers_in([many] + row.split(","), digits)
        if star == "" or numbers is None:
            return None
        found.append((numbers[0], tuple(numbers[1:])))
    return found


def kind_of_read(net, pairs):
    """The kind that the pairs tell, roots ascending, numbers from 1 on; None if they tell none of this good net."""
    found = {}
    ahead = None
    for many, root in pairs:
        if many == 0 or not is_root(net, root) or (ahead is not None and root <= ahead):
            return None
        found[root] = many
        ahead = root
    return found


def read_kind(net, text):
    """The kind of the net that the text tells."""
    check_good(net)
    pairs = pairs_in(text, MOST_DIGITS) if isinstance(text, str) else None
    kind = None if pairs is None else kind_of_read(net, pairs)
    if kind is None:
        raise BadText(0)
    return kind
