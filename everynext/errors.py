"""The errors that the functions of this package raise."""


class NextError(ValueError):
    """What all errors of this package have in common."""


class InvalidChart(NextError):
    """A chart was asked for."""


class InvalidPlace(NextError):
    """A place, or a mark that is there, was asked for."""


class InvalidLot(NextError):
    """A lot of places was asked for."""


class InvalidRow(NextError):
    """A row was asked for."""


class InvalidCount(NextError):
    """A number within certain bounds was asked for."""


class InvalidCode(NextError):
    """A chart code was asked for."""


class InvalidWishes(NextError):
    """Wishes were asked for."""


class InvalidParts(NextError):
    """Parts of a chart were asked for."""


class InvalidLots(NextError):
    """A tuple of lots was asked for."""


class InvalidTree(NextError):
    """A tree was asked for."""


class InvalidLengths(NextError):
    """A tuple of lengths was asked for."""


class InvalidFit(NextError):
    """A fit was asked for."""


class InvalidClues(NextError):
    """Clues were asked for."""


class InvalidCommand(NextError):
    """A command was asked for."""


class InvalidPaper(NextError):
    """A paper was asked for."""


class Refused(NextError):
    """What was asked for cannot be done."""


class NothingToUndo(NextError):
    """No deed is there that may be taken back."""


class NoSpan(NextError):
    """No span is open."""


class NotReady(NextError):
    """No live chart is chosen, or none has the name."""


class InvalidText(NextError):
    """A text is refused; index tells how far it may still be right."""

    def __init__(self, index):
        self.index = index


class InvalidDeeds(NextError):
    """Deeds are refused; index tells which one is the first wrong one."""

    def __init__(self, index):
        self.index = index


class TooMany(NextError):
    """There would be more than the bound, which count tells."""

    def __init__(self, count):
        self.count = count


class NotShown(NextError):
    """A paper does not show what it says; count places ahead of the first fault are right."""

    def __init__(self, count):
        self.count = count


class NotAlike(NextError):
    """Two charts are not alike; code is a piece code that they have unlike often."""

    def __init__(self, code):
        self.code = code


class NotKeeping(NextError):
    """A row does not keep a chart; place tells where it fails first."""

    def __init__(self, place):
        self.place = place


class NoRoot(NextError):
    """A chart has no root; length tells which rings bar it, 0 if none do."""

    def __init__(self, length):
        self.length = length


class NotAlong(NextError):
    """A chart does not go along with another one; place tells where it fails first."""

    def __init__(self, place):
        self.place = place


class NotKept(NextError):
    """A lot, or parts, are not kept; place tells where they fail first."""

    def __init__(self, place):
        self.place = place


class NotForest(NextError):
    """A chart is no forest, as this ring has two places or more."""

    def __init__(self, ring):
        self.ring = ring


class NoFit(NextError):
    """A chart has no fit into another one, as this ring is not led."""

    def __init__(self, ring):
        self.ring = ring


class Clash(NextError):
    """No chart meets all of these clues."""

    def __init__(self, clues):
        self.clues = clues


class NotWhole(NextError):
    """A chart has not one piece, but these pieces."""

    def __init__(self, pieces):
        self.pieces = pieces
