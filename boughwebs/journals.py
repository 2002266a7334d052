"""Journals: deeds with what is seen of the web behind each of them."""

from boughwebs.checks import is_list, is_same
from boughwebs.errors import BadJournal, WebError
from boughwebs.loft import Loft, check_loft
from boughwebs.solving import rank

# How many things a deed tells beside its word.
DEEDS = {"add": 1, "turn": 1, "put": 2, "fade": 1, "loosen": 1, "keep": 1, "lose": 1, "mirror": 1, "settle": 0,
         "undo": 0}


def view_of_web(web):
    """The net's arrows, the sizes, the ranks of the tables."""
    return (web.net.arrows, web.sizes, tuple([rank(table) for table in web.tables]))


def view(loft):
    """The view of the web that stands."""
    check_loft(loft)
    return view_of_web(loft.web)


def journal_of(loft):
    """The deeds of the loft's log with the views behind them."""
    check_loft(loft)
    return [(deed, view_of_web(web)) for deed, web in zip(loft.log(), loft.webs()[1:])]


def _is_deed(thing):
    """Whether thing, which may be anything, has the form of a deed; what it tells may be anything."""
    if not isinstance(thing, tuple) or len(thing) == 0 or not isinstance(thing[0], str):
        return False
    return thing[0] in DEEDS and len(thing) == 1 + DEEDS[thing[0]]


def _do(loft, deed):
    """Does the deed."""
    word, told = deed[0], deed[1:]
    if word == "add":
        loft.add(told[0])
    elif word == "turn":
        loft.turn(told[0])
    elif word == "put":
        loft.put(told[0], told[1])
    elif word == "fade":
        loft.fade(told[0])
    elif word == "loosen":
        loft.loosen(told[0])
    elif word == "keep":
        loft.keep(told[0])
    elif word == "lose":
        loft.lose(told[0])
    elif word == "mirror":
        loft.mirror(told[0])
    elif word == "settle":
        loft.settle()
    else:
        loft.undo()


def _is_done(loft, item):
    """Whether the item, which may be anything, is a deed that can be done, with the view behind it; it is done."""
    if not isinstance(item, tuple) or len(item) != 2 or not _is_deed(item[0]):
        return False
    try:
        _do(loft, item[0])
    except WebError:
        return False
    return is_same(view_of_web(loft.web), item[1])


def _led_along(web, thing):
    """The pair of a loft with the deeds done, and the first index at which something is wrong, or None."""
    loft = Loft(web)
    if not is_list(thing):
        return (loft, 0)
    for at, item in enumerate(thing):
        if not _is_done(loft, item):
            return (loft, at)
    return (loft, None)


def first_wrong(web, thing):
    """The index of the first item of a journal that is wrong; None if there is none."""
    _, at = _led_along(web, thing)
    return at


def replayed(web, journal):
    """The Loft of the web with the deeds of the journal done."""
    loft, at = _led_along(web, journal)
    if at is not None:
        raise BadJournal(at)
    return loft
