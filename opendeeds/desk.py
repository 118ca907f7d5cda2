"""The desk: a session that is asked and led by rows of words."""

from opendeeds.books import states
from opendeeds.chance import ahead_chance
from opendeeds.errors import BadCommand
from opendeeds.orders import is_order
from opendeeds.places import row_book
from opendeeds.runs import count_runs
from opendeeds.session import Session
from opendeeds.shutting import closure, corners
from opendeeds.texts import NO_DEEDS

DIGITS = "0123456789"
MOST_DIGITS = 20
DONE = "ok"


def number_in(word):
    """The number that a word tells, BadCommand for a word that tells none."""
    if not 1 <= len(word) <= MOST_DIGITS or not all([sign in DIGITS for sign in word]):
        raise BadCommand("a word is no number")
    if word[0] == "0" and word != "0":
        raise BadCommand("a number has a 0 ahead")
    return int(word)


def lot_in(word):
    """The tuple of the numbers of a word, whether or not they make a lot."""
    if word == NO_DEEDS:
        return ()
    return tuple([number_in(part) for part in word.split(",")])


def told_deeds(deeds):
    """The words of these deeds."""
    return " ".join([str(deed) for deed in deeds]) if deeds else "none"


def told_corners(book, words):
    """The words of the corners of the closure of the set that these words tell."""
    deeds = tuple([number_in(word) for word in words])
    return told_deeds(corners(book, closure(book, deeds)))


def told_chance(book, deed, other):
    """The words of the chance that a deed is done ahead of another one."""
    top, bottom = ahead_chance(book, deed, other)
    return f"{top} {bottom}"


def told_of_book(book, words):
    """The answer to a row that looks at the book alone."""
    match words:
        case ["states"]:
            return str(len(states(book)))
        case ["runs"]:
            return str(count_runs(book))
        case ["corners", first, *more]:
            return told_corners(book, [first, *more])
        case ["chance", deed, other]:
            return told_chance(book, number_in(deed), number_in(other))
        case ["order"]:
            return "yes" if is_order(book) else "no"
        case _:
            raise BadCommand("this is no row of a form that is known here")


def answer(session, words):
    """The answer to a row, given as its words."""
    match words:
        case ["may"]:
            return told_deeds(session.may())
        case ["run"]:
            return told_deeds(session.run())
        case ["left"]:
            return told_deeds(session.left())
        case ["on"]:
            return str(session.ways_on())
        case ["do", deed]:
            session.do(number_in(deed))
        case ["add", deed, lot]:
            session.add_lot(number_in(deed), lot_in(lot))
        case ["drop", deed, lot]:
            session.drop_lot(number_in(deed), lot_in(lot))
        case ["undo"]:
            session.undo()
        case _:
            return told_of_book(session.book(), words)
    return DONE


class Desk:
    """A session with a row of three things, which rows of words ask and lead."""

    def __init__(self):
        self._session = Session(row_book(3))

    def say(self, row):
        """The answer to a row; BadCommand for any object that is none of a form known here."""
        if type(row) != str:
            raise BadCommand("this is no row")
        return answer(self._session, row.split(" "))

    def session(self):
        """A copy of the session."""
        return self._session.copy()
