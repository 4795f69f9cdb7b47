"""Every refusal of the program, each with its word and its values."""


class TearError(ValueError):
    """The base of what is refused for what was handed in."""

    def __init__(self, word="TearError"):
        self.word = word


class BadColours(TearError):
    """The count of pads (at -1) or the colours of a pad are none that a book may have."""

    def __init__(self, at):
        TearError.__init__(self, "BadColours")
        self.at = at


class BadFigure(TearError):
    """What stands at that place is no figure of these pads."""

    def __init__(self, at):
        TearError.__init__(self, "BadFigure")
        self.at = at


class Meeting(TearError):
    """Two figures meet and do not bar one another."""

    def __init__(self, one, other):
        TearError.__init__(self, "Meeting")
        self.one = one
        self.other = other


class TooMany(TearError):
    """There is more than the most that is allowed."""

    def __init__(self, most):
        TearError.__init__(self, "TooMany")
        self.most = most


class TooFar(TearError):
    """More than so many figures would be torn."""

    def __init__(self, most):
        TearError.__init__(self, "TooFar")
        self.most = most


class BadOrder(TearError):
    """An order does not hold all pads, each once."""

    def __init__(self):
        TearError.__init__(self, "BadOrder")


class OtherColours(TearError):
    """Two books have unlike colours."""

    def __init__(self):
        TearError.__init__(self, "OtherColours")


class OtherBook(TearError):
    """A heap is of another book."""

    def __init__(self):
        TearError.__init__(self, "OtherBook")


class BadRow(TearError):
    """The count of rows (at -1) or the row of a pad is wrong."""

    def __init__(self, at):
        TearError.__init__(self, "BadRow")
        self.at = at


class BadNote(TearError):
    """What was handed in is no note of its pad."""

    def __init__(self, note):
        TearError.__init__(self, "BadNote")
        self.note = note


class BadBeneath(TearError):
    """Notes beneath a figure are not such as it takes."""

    def __init__(self):
        TearError.__init__(self, "BadBeneath")


class Full(TearError):
    """A pad's lead would become too long."""

    def __init__(self, pad):
        TearError.__init__(self, "Full")
        self.pad = pad


class NoEnd(TearError):
    """A pad has a round, so nothing comes behind its last note."""

    def __init__(self, pad):
        TearError.__init__(self, "NoEnd")
        self.pad = pad


class NotStanding(TearError):
    """A figure does not stand."""

    def __init__(self, figure):
        TearError.__init__(self, "NotStanding")
        self.figure = figure


class NeverClear(TearError):
    """The part of this pad never ends."""

    def __init__(self, pad):
        TearError.__init__(self, "NeverClear")
        self.pad = pad


class BadDeed(TearError):
    """What was handed in is no deed."""

    def __init__(self):
        TearError.__init__(self, "BadDeed")


class BadNumber(TearError):
    """A number is none of those that are allowed."""

    def __init__(self, number):
        TearError.__init__(self, "BadNumber")
        self.number = number


class NoBeginning(TearError):
    """A heap is not a beginning of another one."""

    def __init__(self):
        TearError.__init__(self, "NoBeginning")


class Barred(TearError):
    """Two heaps are beginnings of no common one."""

    def __init__(self, pad):
        TearError.__init__(self, "Barred")
        self.pad = pad


class BadHeights(TearError):
    """The count of heights (at -1) or the height of a pad is wrong."""

    def __init__(self, at):
        TearError.__init__(self, "BadHeights")
        self.at = at


class BadWeights(TearError):
    """The count of weights (at -1) or the weights of a pad are wrong."""

    def __init__(self, at):
        TearError.__init__(self, "BadWeights")
        self.at = at


class NoMean(TearError):
    """There is no mean where nothing clear has a weight."""

    def __init__(self):
        TearError.__init__(self, "NoMean")


class BadText(TearError):
    """The row of a text with this number is not so written."""

    def __init__(self, at):
        TearError.__init__(self, "BadText")
        self.at = at


class Missing(LookupError):
    """The base of what is refused because it is not there."""

    def __init__(self, word="Missing"):
        self.word = word


class NoPad(Missing):
    """No pad has this number."""

    def __init__(self, pad):
        Missing.__init__(self, "NoPad")
        self.pad = pad


class NoFigure(Missing):
    """No figure has this number."""

    def __init__(self, figure):
        Missing.__init__(self, "NoFigure")
        self.figure = figure


class NoNote(Missing):
    """There is no note at this depth."""

    def __init__(self, depth):
        Missing.__init__(self, "NoNote")
        self.depth = depth


class Stuck(RuntimeError):
    """The base of what is refused because no step is left."""

    def __init__(self, word="Stuck"):
        self.word = word


class NothingBack(Stuck):
    """There is no step to take back."""

    def __init__(self):
        Stuck.__init__(self, "NothingBack")


class NothingAgain(Stuck):
    """There is no step to do again."""

    def __init__(self):
        Stuck.__init__(self, "NothingAgain")
