"""Point [165]: the desk, each form of a line, each error, and that it answers as a loft does."""

import unittest

from boughwebs.desk import Desk
from boughwebs.errors import WebError
from boughwebs.loft import Loft, own
from boughwebs.maps import count_maps
from boughwebs.nets import sinks, sources
from boughwebs.solving import rank
from boughwebs.splits import kind_of, whole_of
from boughwebs.tables import Table, empty, plain
from boughwebs.texts import kind_text, read_kind, read_web, web_text
from boughwebs.webs import Web, bare
from tests.drawn import (CLASH, FIVE, GOOD, NETS, ONE, PAIR, RING, STEP, STRAIGHT, drawn, drawn_kind, drawn_sizes,
                         drawn_web, error_of)

LINE = Web(CLASH, 5, (1, 2, 1), [Table(5, 2, 1, [[1], [0]]), Table(5, 2, 1, [[2], [3]])])
NO_LINES = [None, 3, b"sizes", [], ["sizes"], ("sizes",), True, {}, "", " ", "size", "Sizes", "sizes ", " sizes", "sizes 0",
            "sizes\n", "own 1", "arrows ", "sinks 0", "sources 1", "kind 0", "web 1", "settle 1", "undo 1", "undo\n",
            "settle ", "add", "add ", "maps", "maps ", "from", "from ", "fade", "fade ", "mirror", "loose", "rank", "put",
            "put ", "fade x", "fade -1", "fade 00", "fade 01", "fade 12345", "fade +1", "fade 1.0", "fade 0 ", "fade  0",
            "fade 0 0", "mirror 0 1", "loose 1 1", "rank 0 0", "mirror \u0661", "rank 12345", "put 0 1 ", "put  0 1",
            "put 0  1", "put 0 12345", "put 0 -1", "put 0 01", "put x", "put 12345", "put 0 x", "put 0 1 x", "add 1",
            "add 00", "add 01*1,1", "add 1*", "add *1,1", "add 1*1,1 + ", "add 1*1,1 +1*1,0", "add 1*1,1  + 1*1,0",
            "add 1*1,1 + 0", "add 0 + 0", "add 12345*1,1", "add 1*12345,1", "add 1*1,,1", "add 1*1,1,", "add -1*1,1",
            "add 1*1, 1", "add 1*1;1", "add 0 ", "add  0", "maps 1*x,1", "from 1*1,1 ", "maps 0\n", "what", "quit",
            "undo undo", "say sizes"]


def led(web):
    desk = Desk(web_text(web))
    return desk


def word_of(error):
    return "error " + error.lower()


class DeskTest(unittest.TestCase):

    def test_its_text(self):
        for text in ("", "places 2\n", "places 2\nprime 2\n", "places 1\nprime 4\nsizes 1\n", None, 3,
                     "places 1\nprime 2\nsizes 61\n"):
            self.assertEqual(error_of(Desk, text), error_of(read_web, text))
            self.assertIsNotNone(error_of(Desk, text))
        self.assertEqual(Desk(text=web_text(LINE)).say(line="sizes"), "1 2 1")

    def told(self, desk, *pairs):
        for line, answer in pairs:
            self.assertEqual(desk.say(line), answer, line)

    def test_questions(self):
        self.told(led(LINE), ("sizes", "1 2 1"), ("own", "2"), ("arrows", "0>1 2>1"), ("sinks", "1"), ("sources", "0 2"),
                  ("kind", "1*0,1,1 + 1*1,1,0"), ("maps 0", "0"), ("from 0", "0"), ("maps 1*0,1,0", "2"),
                  ("from 1*1,1,0 + 2*1,1,1", str(count_maps(LINE, whole_of(CLASH, 5, {(1, 1, 0): 1, (1, 1, 1): 2})))),
                  ("rank 0", "1"), ("rank 1", "1"), ("rank 2", "error badnumber"), ("rank 9999", "error badnumber"),
                  ("web", "places 3; arrow 0 1; arrow 2 1; prime 5; sizes 1 2 1; 1; 0; 2; 3"))
        self.told(led(bare(ONE, 7, (0,))), ("arrows", "-"), ("sinks", "0"), ("sources", "0"), ("sizes", "0"),
                  ("own", "0"), ("kind", "0"), ("web", "places 1; prime 7; sizes 0"), ("rank 0", "error badnumber"))
        self.told(led(bare(STEP, 2, (0, 2))), ("web", "places 2; arrow 0 1; prime 2; sizes 0 2; ; "))

    def test_questions_that_cannot_be_answered(self):
        great = led(bare(STEP, 2, (10, 15)))
        self.told(great, ("own", "error toomany"), ("maps 20*1,1", "error toomany"), ("from 20*1,1", "error toomany"),
                  ("maps 61*1,1", "error badweb"), ("from 9999*1,1", "error badweb"), ("add 61*1,1", "error badweb"),
                  ("add 46*1,1", "error badweb"), ("add 45*1,1", "ok"), ("sizes", "55 60"))
        self.told(led(LINE), ("maps 1*1,1", "error badtext"), ("from 1*2,1,1", "error badtext"),
                  ("maps 0*1,1,1", "error badtext"), ("add 1*1,1,1 + 1*1,1,1", "error badtext"),
                  ("add 1*1,1,1 + 1*0,1,1", "error badtext"), ("add 1*9999", "error badtext"),
                  ("add 1*1,1,1,1", "error badtext"), ("undo", "error nothingdone"))

    def test_nets_that_are_not_good(self):
        for net in (PAIR, RING, FIVE):
            desk = led(bare(net, 3, (1,) * net.places))
            self.told(desk, *[(line, "error notgood") for line in (
                "kind", "settle", "add 0", "add 1*1,1", "maps 0", "from 0", "maps 9999*1", "from 0*0")])
            self.told(desk, ("kind 0", "what"), ("add", "what"), ("maps 1", "what"), ("undo", "error nothingdone"),
                      ("fade 0", "ok"), ("undo", "ok"), ("sizes", " ".join("1" * net.places)))

    def test_lines_of_no_form(self):
        for web in (LINE, bare(STEP, 3, (1, 1)), bare(PAIR, 3, (1, 1))):
            desk = led(web)
            for line in NO_LINES:
                self.assertEqual(desk.say(line), "what", repr(line))
            self.assertEqual(desk.say("undo"), "error nothingdone")
            self.assertEqual(desk.say("web"), "; ".join(web_text(web).split("\n")[:-1]))

    def test_deeds(self):
        desk = led(LINE)
        self.told(desk, ("add 2*0,0,1 + 1*1,1,1", "ok"),
                  ("sizes", "2 3 4"), ("put 0 1 2 3 4 0 1", "ok"), ("rank 0", "2"), ("fade 0", "ok"), ("rank 0", "0"),
                  ("undo", "ok"), ("rank 0", "2"), ("mirror 1", "ok"), ("arrows", "1>0 1>2"), ("settle", "ok"),
                  ("undo", "ok"), ("undo", "ok"), ("undo", "ok"), ("undo", "ok"), ("sizes", "1 2 1"),
                  ("undo", "error nothingdone"), ("add 0", "ok"), ("undo", "error nothingdone"))

    def test_deeds_that_are_refused_change_nothing(self):
        desk = led(LINE)
        self.told(desk, ("fade 1", "ok"))
        before = desk.say("web")
        for line, answer in (("put 2", "badnumber"), ("put 2 0 0", "badnumber"), ("put 9999 9999", "badnumber"),
                             ("put 0", "badtable"), ("put 0 1", "badtable"), ("put 0 1 2 3", "badtable"),
                             ("put 0 5 0", "badtable"), ("put 0 0 9999", "badtable"), ("fade 2", "badnumber"),
                             ("fade 9999", "badnumber"), ("mirror 3", "badplace"), ("mirror 9999", "badplace"),
                             ("loose 3", "badplace"), ("loose 0", "notso"), ("loose 2", "notso"),
                             ("add 60*0,1,0", "badweb"), ("add 1*1,0,1", "badtext")):
            self.assertEqual(desk.say(line), "error " + answer, line)
            self.assertEqual(desk.say("web"), before)
        self.told(desk, ("undo", "ok"), ("undo", "error nothingdone"))
        desk = led(bare(STRAIGHT, 2, (1, 1, 1)))
        self.told(desk, ("mirror 1", "error notso"), ("mirror 0", "ok"))
        self.told(led(bare(CLASH, 2, (31, 1, 30))), ("mirror 1", "error toomany"))

    def test_numbers_of_four_and_five_digits(self):
        desk = led(bare(ONE, 97, (1,)))
        self.told(desk, ("add 9999*1", "error badweb"), ("add 10000*1", "what"), ("add 59*1", "ok"),
                  ("mirror 9999", "error badplace"), ("mirror 10000", "what"), ("add 1*9999", "error badtext"),
                  ("add 1*10000", "what"), ("put 9999 10000", "what"), ("put 10000", "what"), ("add 0059*1", "what"),
                  ("sizes", "60"))

    def test_put_without_numbers(self):
        desk = led(bare(STEP, 2, (0, 3)))
        self.told(desk, ("put 0", "ok"), ("put 0 0", "error badtable"), ("undo", "ok"), ("undo", "error nothingdone"))

    def test_loose(self):
        draw = drawn(1651)
        for net in NETS:
            web = drawn_web(draw, net, 3, drawn_sizes(draw, net, 2))
            for place in range(net.places):
                desk, loft = led(web), Loft(web)
                if place in sinks(net):
                    loft.loosen(tuple(plain(3, size) if k == place else empty(3, size, 0)
                                      for k, size in enumerate(web.sizes)))
                    self.told(desk, (f"loose {place}", "ok"))
                    told = [table if head != place else empty(3, table.tall, table.wide)
                            for table, (tail, head) in zip(web.tables, net.arrows)]
                    self.assertEqual(loft.web, Web(net, 3, web.sizes, told))
                else:
                    self.told(desk, (f"loose {place}", "error notso"))
                self.told(desk, ("web", "; ".join(web_text(loft.web).split("\n")[:-1])))

    def answer(self, loft, line):
        """What a loft tells to a line of a known form."""
        word, _, rest = line.partition(" ")
        web = loft.web
        try:
            if word in ("add", "maps", "from"):
                kind = read_kind(web.net, rest)
                whole = whole_of(web.net, web.prime, kind)
                if word == "maps":
                    return str(count_maps(whole, web))
                if word == "from":
                    return str(count_maps(web, whole))
                if kind:
                    loft.add(whole)
                return "ok"
            if word == "put":
                at, *numbers = map(int, rest.split(" "))
                if at >= len(web.tables):
                    return "error badnumber"
                old = web.tables[at]
                if len(numbers) != old.tall * old.wide or max(numbers, default=0) >= web.prime:
                    return "error badtable"
                loft.put(at, Table(web.prime, old.tall, old.wide, [numbers[k * old.wide:(k + 1) * old.wide]
                                                                   for k in range(old.tall)]))
                return "ok"
            if word in ("fade", "mirror"):
                getattr(loft, word)(int(rest))
                return "ok"
            if word in ("settle", "undo"):
                getattr(loft, word)()
                return "ok"
            if word == "rank":
                return str(rank(web.tables[int(rest)])) if int(rest) < len(web.tables) else "error badnumber"
            return {"sizes": lambda: " ".join(map(str, web.sizes)), "own": lambda: str(own(loft)),
                    "arrows": lambda: " ".join(f"{a}>{b}" for a, b in web.net.arrows) or "-",
                    "sinks": lambda: " ".join(map(str, sinks(web.net))),
                    "sources": lambda: " ".join(map(str, sources(web.net))),
                    "kind": lambda: kind_text(web.net, kind_of(web)),
                    "web": lambda: "; ".join(web_text(web).split("\n")[:-1])}[word]()
        except WebError as error:
            return word_of(type(error).__name__)

    def test_a_desk_answers_as_a_loft(self):
        draw = drawn(1652)
        for net in NETS:
            for _ in range(4):
                web = drawn_web(draw, net, draw.choice((2, 3, 97)), drawn_sizes(draw, net, 2))
                desk, loft = led(web), Loft(web)
                for _ in range(25):
                    word = draw.choice(["sizes", "own", "arrows", "sinks", "sources", "kind", "web", "settle", "undo",
                                        "fade", "mirror", "rank", "put", "add", "maps", "from"])
                    line = word
                    if word in ("fade", "mirror", "rank"):
                        line += f" {draw.randrange(net.places + 1)}"
                    if word == "put":
                        at = draw.randrange(len(net.arrows) + 1)
                        many = 2
                        if at < len(net.arrows):
                            many = loft.web.tables[at].tall * loft.web.tables[at].wide
                        line += "".join(f" {number}" for number in [at] + [
                            draw.randrange(loft.web.prime + draw.randrange(2)) for _ in range(many)])
                    if word in ("add", "maps", "from"):
                        kind = drawn_kind(draw, net, 2, 2) if net in GOOD else {}
                        line += " " + (kind_text(net, kind) if net in GOOD else "0")
                    if word == "add" and max(loft.web.sizes) > 12:
                        continue
                    self.assertEqual(desk.say(line), self.answer(loft, line), line)
                self.assertEqual(desk.say("web"), "; ".join(web_text(loft.web).split("\n")[:-1]))


if __name__ == "__main__":
    unittest.main()
