"""Books as texts: a row for each deed, its lots behind a colon."""

from opendeeds.books import MOST_DEEDS, MOST_LOTS, check_book
from opendeeds.errors import BadRows

NO_LOTS = "never"
NO_DEEDS = "-"


def write_lot(lot):
    """The words of a lot."""
    if not lot:
        return NO_DEEDS
    return " ".join([str(deed) for deed in lot])


def write_entry(entry):
    """The words of an entry."""
    if not entry:
        return NO_LOTS
    return " / ".join([write_lot(lot) for lot in entry])


def write_book(book):
    """The text of a book."""
    check_book(book)
    return "\n".join([f"{deed}: {write_entry(entry)}" for deed, entry in enumerate(book)])


def end_of_lot(words, start):
    """The index behind the last word of the lot that begins at start."""
    for at in range(start, len(words)):
        if words[at] == "/":
            return at
    return len(words)


def read_lot(words, start, end, deed, count):
    """The lot of the words from start to below end, in the row of the deed."""
    if words[start:end] == [NO_DEEDS]:
        return ()
    if start == end:
        raise BadRows(deed, start)
    names = [str(other) for other in range(count)]
    lot = ()
    for at in range(start, end):
        if words[at] not in names:
            raise BadRows(deed, at)
        other = names.index(words[at])
        if other == deed or (lot and other <= lot[-1]):
            raise BadRows(deed, at)
        lot = (*lot, other)
    return lot


def read_row(row, deed, count):
    """The entry that the row of the deed tells, in a text of count rows."""
    words = row.split(" ")
    if words[0] != f"{deed}:":
        raise BadRows(deed, 0)
    if words[1:] == [NO_LOTS]:
        return ()
    lots = []
    start = 1
    # A row that ends behind the colon or a / still owes a lot: start is then len(words).
    while start <= len(words):
        end = end_of_lot(words, start)
        lot = read_lot(words, start, end, deed, count)
        if len(lots) == MOST_LOTS or (lots and lot <= lots[-1]):
            raise BadRows(deed, start)
        lots.append(lot)
        start = end + 1
    return tuple(lots)


def read_book(text):
    """The book of which any object is the text."""
    if type(text) != str:
        raise BadRows(0, 0)
    rows = text.split("\n")
    if len(rows) > MOST_DEEDS:
        raise BadRows(MOST_DEEDS, 0)
    return tuple([read_row(row, deed, len(rows)) for deed, row in enumerate(rows)])
