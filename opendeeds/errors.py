"""All errors of the package, each directly under DeedError."""


class DeedError(ValueError):
    """Any error of the package."""


class BadBook(DeedError):
    """An object that is no book."""


class BadDone(DeedError):
    """An object that is no done set of the book."""


class BadState(DeedError):
    """An object that is no state of the book."""


class BadRows(DeedError):
    """An object that is no text of a book: the row and the word of the first fault, from 0."""

    def __init__(self, row, word):
        DeedError.__init__(self, f"fault in row {row} at word {word}")
        self.row = row
        self.word = word


class BadRun(DeedError):
    """An object that is no run of the book, or no full one where a full one is wanted."""


class BadDeed(DeedError):
    """An object that is no deed of the kind that is wanted."""


class BadShut(DeedError):
    """An object that is no shut set of the book."""


class BadSet(DeedError):
    """An object that is no set of the kind that is wanted."""


class BadSizes(DeedError):
    """A book that has another number of deeds than the one ahead of it."""


class BadFamily(DeedError):
    """An object that is no family of so many deeds."""


class BadCosts(DeedError):
    """An object that is no costs of the book."""


class BadDays(DeedError):
    """An object that is no days of the book."""


class BadWeights(DeedError):
    """An object that is no weights of the book."""


class BadPairs(DeedError):
    """An object that is no pairs of so many deeds or places."""


class NotOrder(DeedError):
    """A book that is no order."""


class BadRuns(DeedError):
    """An object that is no runs of every one of so many deeds."""


class BadReach(DeedError):
    """A book that has a deed that is not of reach."""


class BadTree(DeedError):
    """An object that is no pairs that make a tree of so many places."""


class BadPoints(DeedError):
    """An object that is no points."""


class BadSeen(DeedError):
    """An object that is no seen runs of so many deeds."""


class BadRefused(DeedError):
    """An object that is no refused deeds behind runs."""


class BadLot(DeedError):
    """An object that can be no lot of the deed, or not the one that is wanted."""


class NotYet(DeedError):
    """A deed that may not be done, or a lot that the run still needs."""


class BadNumber(DeedError):
    """An object that is no integer within its bounds."""


class NothingToUndo(DeedError):
    """No step is in force that could be taken back."""


class Full(DeedError):
    """As many steps are in force as may be."""


class BadCommand(DeedError):
    """An object that is no row of a form that the desk knows."""


class TooMany(DeedError):
    """More than the bound of what is counted."""
