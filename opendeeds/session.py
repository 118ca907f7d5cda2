"""Sessions: a book and a run of it that change step by step."""

from opendeeds.books import MOST_LOTS, check_book, is_lot
from opendeeds.errors import BadLot, Full, NothingToUndo, NotYet, TooMany
from opendeeds.masks import deeds_of, greatest_state, lot_masks, mask_of, next_deeds
from opendeeds.runs import check_deed, is_run
from opendeeds.tallies import counts_on

MOST_STEPS = 50


def with_entry(book, deed, lots):
    """The book with these lots as the entry of the deed."""
    return (*book[:deed], tuple(sorted(lots)), *book[deed + 1 :])


class Session:
    """A book and a run, with the steps in force that can be taken back."""

    def __init__(self, book):
        check_book(book)
        self._book = book
        self._run = ()
        # The book and the run as they were ahead of each step in force.
        self._steps = []

    def _step_to(self, book, run):
        """Make a step in force that leads to a book and a run, if there may be one more."""
        if len(self._steps) >= MOST_STEPS:
            raise Full(f"{MOST_STEPS} steps are in force")
        self._steps.append((self._book, self._run))
        self._book = book
        self._run = run

    def _has_lot(self, deed, lot):
        """Whether any object is a lot of the deed."""
        return is_lot(lot, deed, len(self._book)) and lot in self._book[deed]

    def do(self, deed):
        """Do a deed that may be done."""
        check_deed(self._book, deed)
        if deed not in self.may():
            raise NotYet("the deed may not be done")
        self._step_to(self._book, (*self._run, deed))

    def add_lot(self, deed, lot):
        """Give a deed a further lot."""
        check_deed(self._book, deed)
        if not is_lot(lot, deed, len(self._book)) or self._has_lot(deed, lot):
            raise BadLot("this can be no further lot of the deed")
        entry = self._book[deed]
        if len(entry) >= MOST_LOTS:
            raise TooMany(f"the deed has {MOST_LOTS} lots")
        self._step_to(with_entry(self._book, deed, [*entry, lot]), self._run)

    def drop_lot(self, deed, lot):
        """Take a lot of a deed away that the run can do without."""
        check_deed(self._book, deed)
        if not self._has_lot(deed, lot):
            raise BadLot("this is no lot of the deed")
        book = with_entry(self._book, deed, [other for other in self._book[deed] if other != lot])
        if not is_run(book, self._run):
            raise NotYet("the run needs the lot")
        self._step_to(book, self._run)

    def undo(self):
        """Take back the last step in force."""
        if not self._steps:
            raise NothingToUndo("no step is in force")
        self._book, self._run = self._steps.pop()

    def book(self):
        """The book."""
        return self._book

    def run(self):
        """The run."""
        return self._run

    def may(self):
        """The ascending list of the deeds that may be done."""
        return next_deeds(lot_masks(self._book), mask_of(self._run))

    def left(self):
        """The ascending tuple of the deeds of reach that are not done."""
        return deeds_of(greatest_state(lot_masks(self._book)) ^ mask_of(self._run))

    def ways_on(self):
        """How many full runs begin with the run, itself counting if it is full."""
        return counts_on(lot_masks(self._book))[mask_of(self._run)]

    def __len__(self):
        return len(self._run)

    def __eq__(self, other):
        return isinstance(other, Session) and self._book == other._book and self._run == other._run

    def copy(self):
        """An equal session that goes its own way with the same steps in force."""
        twin = Session(self._book)
        twin._run = self._run
        twin._steps = list(self._steps)
        return twin
