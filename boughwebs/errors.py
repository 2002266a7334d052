"""The errors of the package, all directly below WebError."""


class WebError(ValueError):
    """What all errors of the package are."""


class BadBar(WebError):
    """What was given is no bar of the line."""


class BadBars(WebError):
    """What was given are no bars; `at` is the first item that is wrong, or None."""

    def __init__(self, at):
        super().__init__("no bars")
        self.at = at


class BadDouble(WebError):
    """What was given is no double."""


class BadFour(WebError):
    """What was given is no four numbers that can be mixed with."""


class BadJoining(WebError):
    """What was given is no joining."""


class BadJournal(WebError):
    """What was given is no journal; `at` is the first item that is wrong."""

    def __init__(self, at):
        super().__init__("no journal")
        self.at = at


class BadKind(WebError):
    """What was given is no kind."""


class BadLeast(WebError):
    """What was given is no name of a least web."""


class BadLoft(WebError):
    """What was given is no Loft."""


class BadMaps(WebError):
    """What was given is no map, or are no coordinates, of these webs."""


class BadNet(WebError):
    """What was given is no Net (None), or `part` of it is wrong."""

    def __init__(self, part):
        super().__init__("no net")
        self.part = part


class BadNumber(WebError):
    """The number called `part` is wrong."""

    def __init__(self, part):
        super().__init__("a wrong number")
        self.part = part


class BadPairKind(WebError):
    """What was given is no kind of pairs; `at` is the first item that is wrong, or None."""

    def __init__(self, at):
        super().__init__("no kind of pairs")
        self.at = at


class BadPart(WebError):
    """What was given is no part of the web."""


class BadPlace(WebError):
    """What was given is no place of the net."""


class BadPoint(WebError):
    """What was given is no point."""


class BadPoly(WebError):
    """What was given is no polynomial that can be taken here."""


class BadPrices(WebError):
    """What was given are no prices."""


class BadPrime(WebError):
    """What was given is no prime of those allowed."""


class BadProbe(WebError):
    """What was given is no probe."""


class BadRow(WebError):
    """What was given is no row of the net that can be taken here."""


class BadSplit(WebError):
    """What was given is no splitting of the web."""


class BadTable(WebError):
    """What was given is no Table, or is none that fits."""


class BadTally(WebError):
    """What was given is no tally that can be taken here."""


class BadText(WebError):
    """The line `at` of the text is wrong."""

    def __init__(self, at):
        super().__init__("a wrong line")
        self.at = at


class BadWeb(WebError):
    """What was given is no Web (None), or `part` of it is wrong."""

    def __init__(self, part):
        super().__init__("no web")
        self.part = part


class BadWeights(WebError):
    """What was given are no weights."""


class BadWhole(WebError):
    """What was given is no Whole (None), or `part` of it is wrong."""

    def __init__(self, part):
        super().__init__("no whole")
        self.part = part


class NotFour(WebError):
    """The web is no four."""


class NotGood(WebError):
    """The net is not good."""


class NotLine(WebError):
    """The net is no line."""


class NotPair(WebError):
    """The web is no pair."""


class NotRound(WebError):
    """The net is not round."""


class NotSo(WebError):
    """What is asked for needs something that is not so here."""


class NotStraight(WebError):
    """The web is not straight."""


class NothingDone(WebError):
    """No deed stands that could be taken back."""


class OtherNet(WebError):
    """The webs are not of one net and one prime."""


class TooMany(WebError):
    """More than `most` of something would come up."""

    def __init__(self, most):
        super().__init__("too many")
        self.most = most
