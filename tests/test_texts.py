"""Point [164]: texts of nets, tables, webs and kinds, there and back."""

import unittest

from boughwebs.kinds import is_kind, kinds_of
from boughwebs.nets import Net
from boughwebs.tables import Table, empty, plain
from boughwebs.texts import kind_text, net_text, read_kind, read_net, read_table, read_web, table_text, web_text
from boughwebs.webs import Web, bare
from tests.drawn import (ARMS_SIX, CLASH, FIVE, GOOD, NETS, ONE, PAIR, RING, STAR, STEP, drawn, drawn_kind, drawn_sizes,
                         drawn_table, drawn_web, error_of)

NO_TEXTS = [None, 3, b"places 1\n", [], ["places 1"], {}, True, ("places 1\n",)]
NO_NUMBERS = ["", "00", "01", "-1", "+1", "1.0", "1e1", "0x1", "1_0", "1234567890", "one", " 1", "\t1", "1\r", "\u0661",
              "\u00b2", "1,"]


def lines_of(text):
    return text.split("\n")[:-1]


def text_of(lines):
    return "".join(line + "\n" for line in lines)


def otherwise(text):
    """Texts with one line left out, put in, twice, not ended or otherwise, with the line that is wrong at least."""
    lines = lines_of(text)
    for at, line in enumerate(lines):
        yield at, text_of(lines[:at])
        yield at, text_of(lines[:at]) + line
        for other in (line + " ", " " + line, line + " 1", line.replace(" ", "  ") if " " in line else line + "x",
                      line + "\r", line.upper() + "X", "x " + line, line + "\t", "?" if line else " "):
            yield at, text_of(lines[:at] + [other] + lines[at + 1:])
        for number in NO_NUMBERS:
            words = line.split(" ")
            for k, word in enumerate(words):
                if word.isdigit():
                    some = " ".join(words[:k] + [number] + words[k + 1:])
                    # Taking the last word but for its blank may leave an empty line.
                    if some != line:
                        yield at, text_of(lines[:at] + [some] + lines[at + 1:])


class NetTextTest(unittest.TestCase):

    def test_there_and_back(self):
        self.assertEqual(net_text(net=CLASH), "places 3\narrow 0 1\narrow 2 1\n")
        self.assertEqual(net_text(ONE), "places 1\n")
        for net in NETS:
            self.assertEqual(read_net(text=net_text(net)), net)
            told = [f"places {net.places}"] + [f"arrow {tail} {head}" for tail, head in net.arrows]
            self.assertEqual(lines_of(net_text(net)), told)

    def test_wrong_lines(self):
        for net in (ONE, STEP, PAIR, RING):
            text = net_text(net)
            for at, other in otherwise(text):
                if other and len(lines_of(other)) == at and other.endswith("\n"):
                    # Lines that are left out at the end: another net, or none.
                    continue
                self.assertEqual(error_of(read_net, other), ("BadText", at), repr(other))
            self.assertEqual(error_of(read_net, ""), ("BadText", 0))
            many = len(lines_of(text))
            for more in ("\n", "x\n", "arrow 0\n", "arrow 0 1 2\n", "arrow 0 1", "places 1\n", " \n"):
                self.assertEqual(error_of(read_net, text + more), ("BadText", many))
        for wrong in NO_TEXTS:
            self.assertEqual(error_of(read_net, wrong), ("BadText", 0))

    def test_errors_of_nets(self):
        for text, part in (("places 0\n", "places"), ("places 9\n", "places"), ("places 123456789\n", "places"),
                           ("places 2\n", "arrows"), ("places 1\narrow 0 0\n", "arrows"),
                           ("places 2\narrow 0 1\narrow 1 0\n", "arrows"), ("places 2\narrow 0 2\n", "arrows"),
                           ("places 2\n" + "arrow 0 1\n" * 13, "arrows"), ("places 9\narrow 123456789 0\n", "places")):
            self.assertEqual(error_of(read_net, text), ("BadNet", part))
        # A wrong line comes first, wherever it stands.
        self.assertEqual(error_of(read_net, "places 9\narrow 0 9\narrow 0\n"), ("BadText", 2))
        self.assertEqual(error_of(read_net, "places 9\narrow 0 1234567890\n"), ("BadText", 1))
        self.assertEqual(error_of(read_net, "places 9"), ("BadText", 0))
        self.assertEqual(read_net("places 2\n" + "arrow 0 1\n" * 12), Net(2, [(0, 1)] * 12))


class TableTextTest(unittest.TestCase):

    def test_there_and_back(self):
        self.assertEqual(table_text(table=Table(97, 2, 3, [[1, 96, 0], [0, 5, 10]])),
                         "table 97 2 3\n1 96 0\n0 5 10\n")
        self.assertEqual(table_text(empty(2, 3, 0)), "table 2 3 0\n\n\n\n")
        self.assertEqual(table_text(empty(2, 0, 3)), "table 2 0 3\n")
        draw = drawn(1641)
        for _ in range(100):
            table = drawn_table(draw, draw.choice((2, 3, 97)), draw.randrange(5), draw.randrange(5))
            self.assertEqual(read_table(text=table_text(table)), table)
        self.assertEqual(read_table(table_text(plain(97, 60))), plain(97, 60))

    def test_wrong_lines(self):
        for table in (Table(5, 2, 2, [[1, 2], [3, 4]]), empty(3, 2, 0), empty(3, 0, 2), plain(97, 1)):
            text = table_text(table)
            for at, other in otherwise(text):
                self.assertEqual(error_of(read_table, other), ("BadText", at), repr(other))
            many = len(lines_of(text))
            for more in ("\n", "x\n", "0\n", "0 0\n", "0", " "):
                self.assertEqual(error_of(read_table, text + more), ("BadText", many))
        for text, at in (("table 5 1 1\n5\n", 1), ("table 5 1 2\n4 5\n", 1), ("table 5 2 1\n4\n12\n", 2),
                         ("table 5 1 0\n0\n", 1), ("table 5 1 1\n\n", 1), ("table 5 61 1\n0\n", 2),
                         ("table 5 1 61\n0\n", 1), ("table 5 123456789 0\n\n", 2), ("table 5 1\n", 0), ("\n", 0)):
            self.assertEqual(error_of(read_table, text), ("BadText", at))
        for wrong in NO_TEXTS:
            self.assertEqual(error_of(read_table, wrong), ("BadText", 0))

    def test_errors_of_tables(self):
        for prime in (0, 1, 4, 91, 98, 101, 123456789):
            for rest in ("1 1\n0\n", "1 1\n", "61 0\n", "1 1\nx\n"):
                self.assertEqual(error_of(read_table, f"table {prime} {rest}"), ("BadPrime",))
        self.assertEqual(error_of(read_table, "table 4 1\n"), ("BadText", 0))
        self.assertEqual(error_of(read_table, "table 2 61 0\n" + "\n" * 61), ("BadTable",))
        self.assertEqual(error_of(read_table, "table 2 61 0\n" + "\n" * 62), ("BadText", 62))
        self.assertEqual(error_of(read_table, "table 2 0 61\n"), ("BadTable",))
        self.assertEqual(error_of(read_table, "table 2 0 61\n0\n"), ("BadText", 1))
        self.assertEqual(error_of(read_table, "table 2 1 61\n" + "0 " * 60 + "0\n"), ("BadTable",))
        self.assertEqual(error_of(table_text, None), ("BadTable",))


class WebTextTest(unittest.TestCase):

    def test_there_and_back(self):
        web = Web(CLASH, 5, (1, 2, 0), [Table(5, 2, 1, [[1], [4]]), empty(5, 2, 0)])
        self.assertEqual(web_text(web=web), "places 3\narrow 0 1\narrow 2 1\nprime 5\nsizes 1 2 0\n1\n4\n\n\n")
        self.assertEqual(web_text(bare(ONE, 97, (60,))), "places 1\nprime 97\nsizes 60\n")
        self.assertEqual(read_web("places 1\nprime 97\nsizes 60\n"), bare(ONE, 97, (60,)))
        draw = drawn(1642)
        for net in NETS:
            for _ in range(5):
                web = drawn_web(draw, net, draw.choice((2, 97)), drawn_sizes(draw, net, 3))
                self.assertEqual(read_web(text=web_text(web)), web)

    def test_wrong_lines(self):
        for web in (Web(CLASH, 5, (1, 2, 0), [Table(5, 2, 1, [[1], [4]]), empty(5, 2, 0)]), bare(ONE, 7, (3,)),
                    Web(PAIR, 3, (2, 1), [Table(3, 1, 2, [[1, 2]])] * 2)):
            text = web_text(web)
            for at, other in otherwise(text):
                lines = lines_of(other)
                if [line.split(" ")[0] for line in lines].count("prime") and at == 1 + len(web.net.arrows):
                    # The line of the prime: behind the arrows, so the net comes first.
                    self.assertEqual(error_of(read_web, other), ("BadText", at), repr(other))
                elif at < 1 + len(web.net.arrows) and len(lines) > at and lines[at].split(" ")[0] == "prime":
                    self.assertEqual(error_of(read_web, other)[0], "BadNet")
                else:
                    self.assertEqual(error_of(read_web, other), ("BadText", at), repr(other))
            many = len(lines_of(text))
            for more in ("\n", "x\n", "0\n", "0", "prime 2\n"):
                self.assertEqual(error_of(read_web, text + more), ("BadText", many))
        for wrong in NO_TEXTS + [""]:
            self.assertEqual(error_of(read_web, wrong), ("BadText", 0))

    def test_errors_as_soon_as_their_lines_are_read(self):
        for text, told in (("places 2\nprime 4\nsizes x\n", ("BadNet", "arrows")),
                           ("places 0\nprime", ("BadText", 1)), ("places 0\nprime\n", ("BadNet", "places")),
                           ("places 9\nprime 2\n", ("BadNet", "places")), ("places 2\narrow 0 1\n", ("BadText", 2)),
                           ("places 2\n", ("BadText", 1)), ("places 2\narrow 0 1\nprime x\n", ("BadText", 2)),
                           ("places 2\narrow 0 1\nprime 4\n", ("BadText", 3)),
                           ("places 2\narrow 0 1\nprime 4\nsizes 1\n", ("BadText", 3)),
                           ("places 2\narrow 0 1\nprime 4\nsizes 1 1 1\n", ("BadText", 3)),
                           ("places 2\narrow 0 1\nprime 4\nsizes 61 1\nx\n", ("BadWeb", "prime")),
                           ("places 2\narrow 0 1\nprime 5\nsizes 61 1\nx\n", ("BadWeb", "sizes")),
                           ("places 2\narrow 0 1\nprime 5\nsizes 0 123456789\n", ("BadWeb", "sizes")),
                           ("places 2\narrow 0 1\nprime 5\nsizes 1 1\n5\n", ("BadText", 4)),
                           ("places 2\narrow 0 1\nprime 5\nsizes 1 1\n", ("BadText", 4)),
                           ("places 2\narrow 0 1\nprime 123456789\nsizes 1 1\n0\n", ("BadWeb", "prime")),
                           ("places 2\narrow 0 x\nprime 5\nsizes 1 1\n0\n", ("BadText", 1)),
                           ("places 2\nsizes 1 1\n", ("BadText", 1)), ("places 2\nprimes 5\n", ("BadText", 1)),
                           ("places 2\narrow 0 2\nprime 5\nsizes 1 1\n0\n", ("BadNet", "arrows")),
                           ("places 2\narrow 0 1\nprime 5 5\nsizes 1 1\n0\n", ("BadText", 2))):
            self.assertEqual(error_of(read_web, text), told, repr(text))
        self.assertEqual(error_of(web_text, None), ("BadWeb", None))
        self.assertEqual(error_of(net_text, bare(ONE, 2, (1,))), ("BadNet", None))


class KindTextTest(unittest.TestCase):

    def test_there_and_back(self):
        self.assertEqual(kind_text(net=CLASH, kind={(1, 1, 0): 2, (0, 1, 1): 13}), "13*0,1,1 + 2*1,1,0")
        self.assertEqual(kind_text(ONE, {(1,): 123456789}), "123456789*1")
        self.assertEqual(kind_text(ARMS_SIX, {}), "0")
        draw = drawn(1643)
        for net in GOOD:
            self.assertEqual(read_kind(net=net, text="0"), {})
            for _ in range(20):
                kind = drawn_kind(draw, net)
                found = read_kind(net, kind_text(net, kind))
                self.assertEqual(found, kind)
                self.assertEqual(list(found), sorted(kind))
        kinds = kinds_of(CLASH, (2, 3, 2))
        self.assertEqual(len({kind_text(CLASH, kind) for kind in kinds}), len(kinds))

    def test_wrong_texts(self):
        wrong = ["", " ", "0 ", " 0", "00", "0\n", "1*1,1\n", "1*1,1 +", "+ 1*1,1", "1*1,1 + ", "1*1,1 + 0", "0 + 1*1,1",
                 "1*1,1+1*1,0", "1*0,1 +  1*1,0", "1*1,0 + 1*0,1", "1*1,1 + 1*1,1", "0*1,1", "1*0,0", "1*2,1", "1*1",
                 "1*1,1,0", "1*", "*1,1", "1,1", "1**1,1", "1*1,1*1", "1*1,,1", "1*1,1,", "1*1, 1", "1 *1,1", "1* 1,1",
                 "01*1,1", "1*01,1", "-1*1,1", "1*-1,1", "1234567890*1,1", "1*1,1234567890", "{}", "1*1.0,1", "x"]
        for text in wrong + NO_TEXTS:
            self.assertEqual(error_of(read_kind, STEP, text), ("BadText", 0), repr(text))
        self.assertEqual(read_kind(STEP, "999999999*1,1"), {(1, 1): 999999999})

    def test_kinds_of_other_nets(self):
        for net in GOOD:
            for other in GOOD:
                for kind in kinds_of(other, (1,) * other.places)[:10]:
                    text = kind_text(other, kind)
                    if is_kind(net, kind):
                        self.assertEqual(read_kind(net, text), kind)
                    else:
                        self.assertEqual(error_of(read_kind, net, text), ("BadText", 0))

    def test_errors_in_their_order(self):
        for wrong in (None, 3, "net", bare(ONE, 2, (1,))):
            self.assertEqual(error_of(kind_text, wrong, None), ("BadNet", None))
            self.assertEqual(error_of(read_kind, wrong, None), ("BadNet", None))
        for net in (PAIR, RING, FIVE):
            self.assertEqual(error_of(kind_text, net, None), ("NotGood",))
            self.assertEqual(error_of(read_kind, net, None), ("NotGood",))
        for kind in (None, [], {(1, 1): 0}, {(2, 1): 1}, {(1, 1, 1): 1}, {(1, 1): True}):
            self.assertEqual(error_of(kind_text, STEP, kind), ("BadKind",))
        self.assertEqual(kind_text(STAR, {(1, 1, 1, 2): 1}), "1*1,1,1,2")


if __name__ == "__main__":
    unittest.main()
