"""Point [163]: views, journals, what is wrong in one, and lofts of journals."""

import unittest

from boughwebs.journals import first_wrong, journal_of, replayed, view
from boughwebs.loft import Loft
from boughwebs.parts import no_part, whole_part
from boughwebs.solving import rank
from boughwebs.tables import Table, empty, plain
from boughwebs.webs import Web, bare
from tests.drawn import CLASH, PAIR, STEP, error_of, of_other_kinds
from tests.test_loft import NO_LOFTS, WEB, led_lofts

LINE = Web(CLASH, 5, (1, 2, 1), [Table(5, 2, 1, [[1], [0]]), Table(5, 2, 1, [[2], [3]])])


def view_plainly(web):
    return (web.net.arrows, web.sizes, tuple(rank(table) for table in web.tables))


def led(web=LINE):
    """A loft on which each deed has been done, and its journal."""
    loft = Loft(web)
    deeds = [("add", loft.web), ("turn", (plain(5, 2), plain(5, 4), plain(5, 2))), ("put", 1, empty(5, 4, 2)),
             ("fade", 0), ("loosen", no_part(bare(CLASH, 5, (2, 4, 2)))), ("settle",), ("mirror", 1), ("mirror", 1),
             ("keep", whole_part(bare(CLASH, 5, (2, 0, 2)))), ("lose", no_part(bare(CLASH, 5, (2, 0, 2))))]
    journal = []
    for deed in deeds:
        getattr(loft, deed[0])(*deed[1:])
        journal.append((deed, view(loft)))
    return loft, journal


class JournalTest(unittest.TestCase):

    def test_view(self):
        for _, loft, _ in led_lofts(1631):
            self.assertEqual(view(loft=loft), view_plainly(loft.web))
        self.assertEqual(view(Loft(LINE)), (((0, 1), (2, 1)), (1, 2, 1), (1, 1)))

    def test_journals_of_lofts(self):
        for _, loft, deeds in led_lofts(1632):
            found = journal_of(loft=loft)
            self.assertIs(type(found), list)
            self.assertEqual([deed for deed, _ in found], deeds)
            self.assertIsNone(first_wrong(web=loft.first, thing=found))
            again = replayed(web=loft.first, journal=found)
            self.assertEqual(again, loft)
            self.assertEqual((again.web, again.log()), (loft.web, loft.log()))
            while len(loft):
                self.assertEqual(found[-1][1], view_plainly(loft.web))
                loft.undo()
                found.pop()
                self.assertEqual(journal_of(loft), found)
            self.assertEqual(found, [])

    def test_with_undo(self):
        loft, journal = led()
        told = journal + [(("undo",), journal[-2][1]), (("undo",), journal[-3][1]), (("settle",), journal[-3][1])]
        self.assertIsNone(first_wrong(LINE, told))
        again = replayed(LINE, told)
        self.assertEqual(again.log(), [deed for deed, _ in journal[:-2]] + [("settle",)])
        back = [(("fade", 0), view_plainly(bare(STEP, 3, (1, 2)))), (("undo",), view_plainly(WEB))]
        self.assertEqual(replayed(WEB, back), Loft(WEB))
        self.assertEqual(first_wrong(WEB, back + back[1:]), 2)
        self.assertEqual(first_wrong(WEB, back[1:]), 0)

    def test_lists_and_tuples(self):
        loft, journal = led()
        for told in (journal, tuple(journal)):
            self.assertIsNone(first_wrong(LINE, told))
            self.assertEqual(replayed(LINE, told), loft)
        turned = list(journal)
        turned[1] = (("turn", list(journal[1][0][1])), journal[1][1])
        self.assertIsNone(first_wrong(LINE, turned))
        self.assertEqual(replayed(LINE, turned), loft)
        self.assertEqual(replayed(LINE, []), Loft(LINE))
        self.assertIsNone(first_wrong(LINE, ()))

    def wrong(self, web, thing, at):
        self.assertEqual(first_wrong(web, thing), at)
        self.assertEqual(error_of(replayed, web, thing), ("BadJournal", at))

    def test_neither_list_nor_tuple(self):
        for thing in (None, 3, "journal", {}, {0: 1}, Loft(LINE), True, range(0)):
            self.wrong(LINE, thing, 0)

    def test_one_item_otherwise_at_every_depth(self):
        _, journal = led()
        for at, item in enumerate(journal):
            seen = 0
            for other in of_other_kinds(item):
                # Coordinates may be a list.
                if at == 1 and isinstance(other, tuple) and len(other) == 2 and other[1] is item[1]:
                    deed = other[0]
                    if isinstance(deed, tuple) and len(deed) == 2 and isinstance(deed[1], list):
                        self.assertEqual(first_wrong(LINE, journal[:at] + [other]), None if len(deed[1]) == 3 else at)
                        continue
                self.wrong(LINE, journal[:at] + [other] + journal[at + 1:], at)
                seen += 1
            self.assertGreater(seen, 20)

    def test_views_that_are_others(self):
        _, journal = led()
        for at, (deed, told) in enumerate(journal):
            arrows, sizes, ranks = told
            for other in ((arrows[::-1], sizes, ranks), (arrows, sizes[:-1] + (sizes[-1] + 1,), ranks),
                          (arrows, sizes, ranks[:-1] + (ranks[-1] + 1,)), (arrows, sizes), (sizes, arrows, ranks),
                          (arrows, sizes, list(ranks)), [arrows, sizes, ranks], (list(arrows), sizes, ranks),
                          (tuple(map(list, arrows)), sizes, ranks), told + (None,)):
                self.wrong(LINE, journal[:at] + [(deed, other)], at)
        web = Web(STEP, 3, (1, 1), [plain(3, 1)])
        self.assertIsNone(first_wrong(web, [(("settle",), (((0, 1),), (1, 1), (1,)))]))
        for told in ((((0, 1),), (1, 1), (True,)), (((0, 1),), (True, 1), (1,)), (((False, 1),), (1, 1), (1,)),
                     (((0, 1),), (1, 1), (1.0,))):
            self.wrong(web, [(("settle",), told)], 0)

    def test_deeds_that_are_refused_or_none(self):
        seen = view_plainly(LINE)
        for deed in (("fade", 2), ("fade", True), ("mirror", 3), ("add", bare(PAIR, 5, (1, 1))), ("add", None),
                     ("loosen", list(no_part(LINE))), ("put", 0, plain(5, 2)), ("turn", ()), ("undo",), ("undo", 0),
                     ("settle", None), ("log",), ("copy",), ("attempt", len), ("web",), (), ("fade",), ("fade", 0, 0),
                     ["fade", 0], "settle", ("Fade", 0), (b"fade", 0), (("fade",), 0), None, ("__len__",)):
            self.wrong(LINE, [(deed, seen)], 0)
            if deed != ("undo",):
                self.wrong(LINE, [(("settle",), seen), (deed, seen)], 1)
        self.assertIsNone(first_wrong(LINE, [(("settle",), seen)]))
        for item in ((("settle",),), (("settle",), seen, None), [("settle",), seen], ("settle", seen), None, 3, ()):
            self.wrong(LINE, [item], 0)

    def test_errors(self):
        for wrong in NO_LOFTS:
            self.assertEqual(error_of(view, wrong), ("BadLoft",))
            self.assertEqual(error_of(journal_of, wrong), ("BadLoft",))
        for wrong in (None, 3, STEP, Loft(LINE), "web"):
            self.assertEqual(error_of(first_wrong, wrong, None), ("BadWeb", None))
            self.assertEqual(error_of(replayed, wrong, None), ("BadWeb", None))

    def test_nothing_that_is_passed_is_changed(self):
        loft, journal = led()
        before = list(journal)
        first_wrong(LINE, journal)
        again = replayed(LINE, journal)
        again.undo()
        self.assertEqual(journal, before)
        self.assertEqual(journal_of(loft), before)


if __name__ == "__main__":
    unittest.main()
