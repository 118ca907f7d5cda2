"""Promise [25]: sessions."""

import itertools
import random

from opendeeds.books import is_book
from opendeeds.desk import Desk
from opendeeds.errors import BadBook, BadDeed, BadLot, DeedError, Full, NothingToUndo, NotYet, TooMany
from opendeeds.session import Session
from samples import B, CHAIN, EACH_OTHER, FORTY, FORTY_LAST, FREE, HALF_BARRED, NEVER, NO_LOTS, ONE
from samples import Soon, any_objects, is_one_of, lots_of, random_book, same, some_books, subsets
from samples import told_full_runs, told_may, told_reach, wrong_books, wrong_integers

# The last deed has thirty-nine lots.
THIRTY_NINE = (((),),) * 7 + (tuple(lots_of(7, 8)[:39]),)

# Things that can be no lot of deed 1 of three.
NO_LOTS_OF_1 = [
    (1,),
    (0, 1),
    (1, 2),
    (0, 1, 2),
    (2, 0),
    (0, 0),
    (3,),
    (0, 3),
    (-1,),
    (10**29,),
    (True,),
    (False,),
    (0, True),
    (False, 2),
    ("0",),
    (None,),
    ((0,),),
    ((),),
    [],
    [0],
    ([0],),
    "",
    "0",
    None,
    0,
    {},
    {0},
    range(0),
    tuple(range(1000)),
]


def told(session):
    """All that a session tells, but for what may be undone."""
    return [
        session.book(),
        session.run(),
        session.may(),
        session.left(),
        session.ways_on(),
        len(session),
    ]


def told_session(book, run):
    """What a session with this book and run tells, by the document's words."""
    left = tuple(deed for deed in told_reach(book) if deed not in run)
    ways_on = len([full for full in told_full_runs(book) if full[: len(run)] == run])
    return [book, run, told_may(book, run), left, ways_on, len(run)]


def led_to(book, run):
    """A session with this book that has done the deeds of a run."""
    session = Session(book)
    for deed in run:
        session.do(deed)
    return session


def many_steps(session, many):
    """Make so many steps in force that change the book to and fro."""
    for step in range(many):
        lot = (0, 2)
        if step % 2 == 0:
            session.add_lot(1, lot)
        else:
            session.drop_lot(1, lot)


class Sessions(Soon):
    def tells(self, session, book, run):
        """The session tells what it should with this book and run."""
        found = told(session)
        self.assertTrue(same(found, told_session(book, run)), (found, book, run))

    def keeps(self, error, session, call, *rest):
        """The call raises just this error, and nothing of the session has changed, nor what may be undone."""
        before = told(session)
        steps = undone_to_the_end(session)
        self.refuses(error, call, *rest)
        self.assertTrue(same(told(session), before))
        self.assertTrue(same(undone_to_the_end(session), steps))


def undone_to_the_end(session):
    """What a copy of the session tells of its book and run when each step is taken back in turn."""
    twin = session.copy()
    found = []
    while True:
        found.append((twin.book(), twin.run()))
        try:
            twin.undo()
        except NothingToUndo:
            return found


class New(Sessions):
    def test_a_new_session(self):
        for book in [*some_books(), HALF_BARRED, CHAIN, NO_LOTS, FORTY, ONE, (((),),)]:
            session = Session(book)
            self.tells(session, book, ())
            self.refuses(NothingToUndo, session.undo)

    def test_by_name(self):
        self.gives(B, Session(book=B).book)

    def test_eight_deeds(self):
        session = Session(FREE)
        self.gives(40320, session.ways_on)
        self.gives([0, 1, 2, 3, 4, 5, 6, 7], session.may)
        self.gives((0, 1, 2, 3, 4, 5, 6, 7), session.left)
        self.gives(0, len, session)

    def test_bad_book(self):
        for thing in [*wrong_books(), Desk()]:
            self.refuses(BadBook, Session, thing)


class Do(Sessions):
    def test_deeds_one_by_one(self):
        session = Session(B)
        self.assertIsNone(session.do(2))
        self.tells(session, B, (2,))
        self.assertIsNone(session.do(deed=0))
        self.tells(session, B, (2, 0))
        session.do(1)
        self.tells(session, B, (2, 0, 1))
        self.gives(1, session.ways_on)
        self.gives([], session.may)
        self.gives((), session.left)
        self.gives(3, len, session)

    def test_all_runs_of_small_books(self):
        for book in [*some_books(4), HALF_BARRED]:
            for run in told_full_runs(book):
                session = Session(book)
                for size, deed in enumerate(run):
                    session.do(deed)
                    self.tells(session, book, run[: size + 1])

    def test_not_yet(self):
        session = Session(B)
        self.keeps(NotYet, session, session.do, 1)
        session.do(0)
        self.keeps(NotYet, session, session.do, 0)
        session.do(1)
        self.keeps(NotYet, session, session.do, 1)
        session.do(2)
        for deed in range(3):
            self.keeps(NotYet, session, session.do, deed)
        session = Session(HALF_BARRED)
        for deed in (1, 3, 4, 5, 6, 7):
            self.keeps(NotYet, session, session.do, deed)

    def test_bad_deed(self):
        session = led_to(B, (0,))
        for thing in wrong_integers(0, 2):
            self.keeps(BadDeed, session, session.do, thing)
        self.keeps(BadDeed, Session(ONE), Session(ONE).do, 1)
        self.keeps(BadDeed, Session(FREE), Session(FREE).do, 8)


class AddLot(Sessions):
    def test_a_lot(self):
        session = led_to(B, (0,))
        self.assertIsNone(session.add_lot(2, (1,)))
        self.tells(session, (((),), ((0,), (2,)), ((), (1,))), (0,))
        self.assertIsNone(session.add_lot(deed=1, lot=()))
        self.tells(session, (((),), ((), (0,), (2,)), ((), (1,))), (0,))

    def test_lots_ascend(self):
        session = Session(B)
        session.add_lot(1, (0, 2))
        self.gives((((),), ((0,), (0, 2), (2,)), ((),)), session.book)
        session = Session(NO_LOTS)
        for lot in [(3,), (), (1, 2, 3), (1, 2), (7,), (1,), (2, 7)]:
            session.add_lot(0, lot)
            self.assertTrue(is_book(session.book()))
        self.gives(((), (1,), (1, 2), (1, 2, 3), (2, 7), (3,), (7,)), lambda: session.book()[0])

    def test_a_lot_that_makes_another_one_spare(self):
        session = Session((((),), ((0, 2),), ((),)))
        session.add_lot(1, (0,))
        self.tells(session, (((),), ((0,), (0, 2)), ((),)), ())
        session.add_lot(1, ())
        self.tells(session, (((),), ((), (0,), (0, 2)), ((),)), ())

    def test_a_lot_by_which_more_is_of_reach(self):
        session = led_to(NEVER, (2,))
        session.add_lot(0, (2,))
        self.tells(session, (((2,),), ((0,),), ((),)), (2,))
        session.do(0)
        session.do(1)
        self.tells(session, (((2,),), ((0,),), ((),)), (2, 0, 1))

    def test_a_full_run_that_is_none_any_more(self):
        session = led_to(NEVER, (2,))
        self.gives(1, session.ways_on)
        session.add_lot(0, ())
        self.gives([0], session.may)
        self.gives(1, session.ways_on)
        session.add_lot(1, (2,))
        self.gives([0, 1], session.may)
        self.gives(2, session.ways_on)
        self.gives((0, 1), session.left)

    def test_bad_lot(self):
        session = led_to(B, (0,))
        for thing in NO_LOTS_OF_1:
            self.keeps(BadLot, session, session.add_lot, 1, thing)
        for thing in any_objects():
            if not is_one_of(thing, [()]):
                self.keeps(BadLot, session, session.add_lot, 1, thing)
            if not is_one_of(thing, [2]):
                self.keeps(BadLot, session, session.add_lot, 1, (0, thing))
        self.keeps(BadLot, session, session.add_lot, 0, (0,))
        self.keeps(BadLot, session, session.add_lot, 2, (1, 2))

    def test_one_that_it_has(self):
        session = Session(B)
        self.keeps(BadLot, session, session.add_lot, 0, ())
        self.keeps(BadLot, session, session.add_lot, 1, (0,))
        self.keeps(BadLot, session, session.add_lot, 1, (2,))
        session.add_lot(1, (0, 2))
        self.keeps(BadLot, session, session.add_lot, 1, (0, 2))

    def test_bad_deed(self):
        session = Session(B)
        for thing in wrong_integers(0, 2):
            self.keeps(BadDeed, session, session.add_lot, thing, (0, 2))
            self.keeps(BadDeed, session, session.add_lot, thing, None)

    def test_the_fortieth_lot_and_the_forty_first(self):
        lots = lots_of(7, 8)
        session = Session(THIRTY_NINE)
        session.add_lot(7, lots[80])
        self.gives(tuple(sorted([*lots[:39], lots[80]])), lambda: session.book()[7])
        self.keeps(TooMany, session, session.add_lot, 7, lots[81])
        self.keeps(BadLot, session, session.add_lot, 7, lots[80])
        self.keeps(BadLot, session, session.add_lot, 7, (7,))
        self.keeps(BadLot, session, session.add_lot, 7, None)
        session.add_lot(0, (7,))
        session.drop_lot(7, lots[3])
        session.add_lot(7, lots[81])
        self.assertEqual(len(session.book()[7]), 40)
        session = Session(FORTY_LAST)
        self.keeps(TooMany, session, session.add_lot, 7, lots[40])
        session.add_lot(6, (7,))


class DropLot(Sessions):
    def test_a_lot(self):
        session = Session(B)
        self.assertIsNone(session.drop_lot(1, (0,)))
        self.tells(session, (((),), ((2,),), ((),)), ())
        self.assertIsNone(session.drop_lot(deed=0, lot=()))
        self.tells(session, ((), ((2,),), ((),)), ())
        session.drop_lot(1, (2,))
        self.tells(session, ((), (), ((),)), ())

    def test_the_run_stays(self):
        session = led_to(B, (0, 1))
        session.drop_lot(1, (2,))
        self.tells(session, (((),), ((0,),), ((),)), (0, 1))
        session = led_to(B, (0, 2, 1))
        session.drop_lot(1, (0,))
        self.tells(session, (((),), ((2,),), ((),)), (0, 2, 1))
        self.keeps(NotYet, session, session.drop_lot, 1, (2,))

    def test_a_lot_that_the_run_needs(self):
        session = led_to(B, (0, 1))
        self.keeps(NotYet, session, session.drop_lot, 1, (0,))
        self.keeps(NotYet, session, session.drop_lot, 0, ())
        session.drop_lot(2, ())
        self.tells(session, (((),), ((0,), (2,)), ()), (0, 1))
        session = led_to(CHAIN, range(8))
        for deed in range(8):
            self.keeps(NotYet, session, session.drop_lot, deed, CHAIN[deed][0])

    def test_the_deeds_stay_a_state_but_not_in_this_sequence(self):
        session = led_to((((),), ((),)), (0, 1))
        session.add_lot(0, (1,))
        # Without the lot () the deeds are a state, too, but 0 is not done first.
        self.keeps(NotYet, session, session.drop_lot, 0, ())

    def test_all_lots_behind_all_runs(self):
        for book in [*some_books(3), HALF_BARRED]:
            for run in told_full_runs(book)[:6]:
                for deed, entry in enumerate(book):
                    for lot in entry:
                        session = led_to(book, run)
                        left = tuple(other for other in entry if other != lot)
                        after = (*book[:deed], left, *book[deed + 1 :])
                        stays = all(run[at] in told_may(after, run[:at]) for at in range(len(run)))
                        if stays:
                            session.drop_lot(deed, lot)
                            self.tells(session, after, run)
                        else:
                            self.keeps(NotYet, session, session.drop_lot, deed, lot)

    def test_bad_lot(self):
        session = led_to(B, (0, 1))
        for thing in [*NO_LOTS_OF_1, (), (0, 2)]:
            self.keeps(BadLot, session, session.drop_lot, 1, thing)
        for thing in any_objects():
            if not is_one_of(thing, [(0,)]):
                self.keeps(BadLot, session, session.drop_lot, 1, thing)
            if not is_one_of(thing, [0, 2]):
                self.keeps(BadLot, session, session.drop_lot, 1, (thing,))
        self.keeps(BadLot, session, session.drop_lot, 0, (1,))
        session.drop_lot(1, (2,))
        self.keeps(BadLot, session, session.drop_lot, 1, (2,))
        session = Session(NO_LOTS)
        self.keeps(BadLot, session, session.drop_lot, 3, ())

    def test_bad_deed(self):
        session = Session(B)
        for thing in wrong_integers(0, 2):
            self.keeps(BadDeed, session, session.drop_lot, thing, ())
            self.keeps(BadDeed, session, session.drop_lot, thing, None)


class Undo(Sessions):
    def test_behind_each_kind_of_step(self):
        session = led_to(B, (0,))
        self.assertIsNone(session.undo())
        self.tells(session, B, ())
        session.add_lot(1, ())
        self.assertIsNone(session.undo())
        self.tells(session, B, ())
        session.drop_lot(1, (0,))
        self.assertIsNone(session.undo())
        self.tells(session, B, ())
        self.keeps(NothingToUndo, session, session.undo)

    def test_the_last_step_first(self):
        session = led_to(B, (0,))
        session.add_lot(2, (1,))
        session.do(1)
        session.drop_lot(2, ())
        session.do(2)
        found = undone_to_the_end(session)
        more = (((),), ((0,), (2,)), ((), (1,)))
        less = (((),), ((0,), (2,)), ((1,),))
        self.assertEqual(
            found, [(less, (0, 1, 2)), (less, (0, 1)), (more, (0, 1)), (more, (0,)), (B, (0,)), (B, ())]
        )
        for book, run in found[1:]:
            session.undo()
            self.tells(session, book, run)
        self.refuses(NothingToUndo, session.undo)

    def test_it_is_no_step(self):
        session = led_to(B, (0, 1))
        session.undo()
        session.undo()
        self.tells(session, B, ())
        self.refuses(NothingToUndo, session.undo)
        session.do(2)
        self.tells(session, B, (2,))

    def test_calls_that_raise_are_no_steps(self):
        session = led_to(B, (0,))
        for call in [lambda: session.do(0), lambda: session.do(3), lambda: session.add_lot(1, (0,))]:
            with self.assertRaises(DeedError):
                call()
        session.undo()
        self.tells(session, B, ())
        self.refuses(NothingToUndo, session.undo)


class FiftySteps(Sessions):
    def test_the_fiftieth_and_the_fifty_first(self):
        session = Session(B)
        many_steps(session, 49)
        session.do(0)
        self.keeps(Full, session, session.do, 1)
        self.keeps(Full, session, session.add_lot, 1, ())
        self.keeps(Full, session, session.drop_lot, 1, (0, 2))

    def test_behind_all_other_errors(self):
        session = led_to(THIRTY_NINE, (0,))
        session.add_lot(7, lots_of(7, 8)[39])
        for _ in range(24):
            session.add_lot(1, (0, 2))
            session.drop_lot(1, (0, 2))
        self.keeps(Full, session, session.do, 1)
        self.keeps(BadDeed, session, session.do, 8)
        self.keeps(NotYet, session, session.do, 0)
        self.keeps(BadDeed, session, session.add_lot, -1, (0, 2))
        self.keeps(BadLot, session, session.add_lot, 1, ())
        self.keeps(BadLot, session, session.add_lot, 1, (1,))
        self.keeps(BadLot, session, session.add_lot, 7, ())
        self.keeps(TooMany, session, session.add_lot, 7, lots_of(7, 8)[100])
        self.keeps(BadDeed, session, session.drop_lot, 8, ())
        self.keeps(BadLot, session, session.drop_lot, 1, (0,))
        self.keeps(NotYet, session, session.drop_lot, 0, ())
        self.keeps(Full, session, session.drop_lot, 1, ())

    def test_one_taken_back_and_another_made(self):
        session = Session(B)
        many_steps(session, 50)
        self.tells(session, B, ())
        self.keeps(Full, session, session.do, 0)
        for deed in (0, 2, 0):
            session.undo()
            session.do(deed)
            self.keeps(Full, session, session.do, 1)
        self.tells(session, (((),), ((0,), (0, 2), (2,)), ((),)), (0,))
        for _ in range(50):
            session.undo()
        self.refuses(NothingToUndo, session.undo)
        self.tells(session, B, ())
        many_steps(session, 50)
        self.keeps(Full, session, session.do, 2)

    def test_calls_that_raise_do_not_count(self):
        session = Session(B)
        for _ in range(60):
            with self.assertRaises(NotYet):
                session.do(1)
        many_steps(session, 49)
        session.do(2)
        self.keeps(Full, session, session.do, 0)


class Equality(Sessions):
    def test_led_to_the_same_otherwise(self):
        session = led_to(B, (0, 1))
        self.assertTrue(session == led_to(B, (0, 1)))
        self.assertFalse(session != led_to(B, (0, 1)))
        other = led_to(B, (0,))
        other.add_lot(1, ())
        other.do(1)
        self.assertFalse(session == other)
        other.drop_lot(1, ())
        self.assertTrue(session == other)
        self.assertFalse(session != other)
        other.undo()
        self.assertTrue(session != other)

    def test_unlike_books_or_runs(self):
        self.assertFalse(led_to(B, (0, 2)) == led_to(B, (2, 0)))
        self.assertFalse(led_to(B, (0,)) == led_to(B, ()))
        self.assertFalse(Session(B) == Session(NEVER))
        self.assertFalse(Session(B) == Session((((),), ((0,), (0, 2), (2,)), ((),))))
        self.assertTrue(Session(ONE) == Session(ONE))

    def test_other_objects(self):
        session = Session(B)
        for thing in [B, (), (B, ()), [B, ()], None, 0, True, "", Desk(), Session, session.book, *any_objects()]:
            self.assertIs(session == thing, False)
            self.assertIs(session != thing, True)

    def test_with_itself_and_copies(self):
        for book in some_books(3)[::7]:
            session = Session(book)
            self.assertIs(session == session, True)
            self.assertIs(session == session.copy(), True)
            self.assertIs(session != session.copy(), False)


class Copy(Sessions):
    def test_it_goes_its_own_way(self):
        session = led_to(B, (0,))
        twin = session.copy()
        self.assertIs(type(twin), Session)
        self.assertIsNot(twin, session)
        twin.do(1)
        self.tells(session, B, (0,))
        self.tells(twin, B, (0, 1))
        session.add_lot(2, (1,))
        self.tells(twin, B, (0, 1))
        twin.undo()
        twin.undo()
        self.tells(twin, B, ())
        self.refuses(NothingToUndo, twin.undo)
        self.tells(session, (((),), ((0,), (2,)), ((), (1,))), (0,))
        session.undo()
        self.tells(session, B, (0,))
        session.undo()
        self.tells(session, B, ())

    def test_the_same_steps_to_take_back(self):
        session = led_to(B, (2,))
        session.drop_lot(1, (0,))
        session.do(1)
        found = undone_to_the_end(session)
        self.assertEqual(found, undone_to_the_end(session.copy().copy()))
        self.assertEqual(len(found), 4)

    def test_they_count_towards_its_own_fifty(self):
        session = Session(B)
        many_steps(session, 49)
        twin = session.copy()
        twin.do(0)
        self.keeps(Full, twin, twin.do, 1)
        session.do(2)
        self.keeps(Full, session, session.do, 1)
        self.keeps(Full, session.copy(), session.copy().do, 1)
        for _ in range(50):
            twin.undo()
        self.refuses(NothingToUndo, twin.undo)
        self.keeps(Full, session, session.do, 1)

    def test_taking_back_in_the_first_leaves_the_copy(self):
        session = led_to(B, (0, 1, 2))
        twin = session.copy()
        for _ in range(3):
            session.undo()
        self.tells(twin, B, (0, 1, 2))
        self.assertEqual(len(undone_to_the_end(twin)), 4)


class Lists(Sessions):
    def test_may_is_a_new_list_each_time(self):
        session = Session(B)
        found = session.may()
        found.append(1)
        found.clear()
        self.gives([0, 2], session.may)
        self.assertIsNot(session.may(), session.may())
        session.do(0)
        self.gives([1, 2], session.may)

    def test_nothing_that_is_handed_in_changes(self):
        lot = (0, 2)
        session = Session(B)
        session.add_lot(1, lot)
        self.assertEqual((lot, B), ((0, 2), (((),), ((0,), (2,)), ((),))))


class WaysOn(Sessions):
    def test_a_full_run_counts_itself(self):
        for book in (B, NEVER, CHAIN, ONE, NO_LOTS, EACH_OTHER):
            run = told_full_runs(book)[0]
            self.gives(1, led_to(book, run).ways_on)

    def test_of_the_book_as_it_is(self):
        session = led_to(B, (0,))
        self.gives(2, session.ways_on)
        session.drop_lot(2, ())
        self.gives(1, session.ways_on)
        session.add_lot(2, (1,))
        self.gives(1, session.ways_on)
        session.add_lot(2, (0,))
        self.gives(2, session.ways_on)
        session.undo()
        session.undo()
        session.undo()
        self.gives(2, session.ways_on)

    def test_along_the_full_runs_of_small_books(self):
        for book in [*some_books(4), HALF_BARRED]:
            full = told_full_runs(book)
            for run in full[:5]:
                for size in range(len(run) + 1):
                    many = len([other for other in full if other[:size] == run[:size]])
                    self.gives(many, led_to(book, run[:size]).ways_on)


class Walks(Sessions):
    def step(self, model, chance):
        """A call that may go wrong, and the error or the book and the run that come of it."""
        book, run, steps = model
        name = chance.choice(["do", "do", "add_lot", "drop_lot"])
        deed = chance.randint(-1, len(book))
        lot = chance.choice(subsets(range(len(book) + 1)))
        if 0 <= deed < len(book) and chance.random() < 0.8:
            likely = lots_of(deed, len(book)) if name == "add_lot" else book[deed]
            lot = chance.choice(likely or [lot])
        given = (deed,) if name == "do" else (deed, lot)
        return name, given, self.outcome(book, run, steps, name, *given)

    def outcome(self, book, run, steps, name, deed, lot=None):
        """What comes of a call, by the document's words."""
        if not 0 <= deed < len(book):
            return BadDeed
        if name == "do":
            if deed not in told_may(book, run):
                return NotYet
            return Full if steps == 50 else (book, (*run, deed))
        fits = deed not in lot and len(book) not in lot
        if name == "add_lot":
            if not fits or lot in book[deed]:
                return BadLot
            entry = tuple(sorted([*book[deed], lot]))
        else:
            if lot not in book[deed]:
                return BadLot
            entry = tuple(other for other in book[deed] if other != lot)
        after = (*book[:deed], entry, *book[deed + 1 :])
        if any(run[at] not in told_may(after, run[:at]) for at in range(len(run))):
            return NotYet
        return Full if steps == 50 else (after, run)

    def test_long_walks(self):
        chance = random.Random(27)
        met = set()
        for count in (1, 2, 3, 4, 5, 5, 5):
            book = random_book(count, 3, chance)
            session = Session(book)
            steps = [(book, ())]
            for _ in range(300):
                if chance.random() < (0.02 if count == 5 else 0.12):
                    if len(steps) > 1:
                        session.undo()
                        steps.pop()
                    else:
                        self.keeps(NothingToUndo, session, session.undo)
                        met.add(NothingToUndo)
                name, given, comes = self.step((*steps[-1], len(steps) - 1), chance)
                if type(comes) is tuple:
                    self.assertIsNone(getattr(session, name)(*given))
                    steps.append(comes)
                else:
                    met.add(comes)
                    self.refuses(comes, getattr(session, name), *given)
                self.tells(session, *steps[-1])
            self.assertEqual(undone_to_the_end(session), steps[::-1])
        self.assertEqual(met, {BadDeed, BadLot, NotYet, Full, NothingToUndo})

    def test_each_pair_of_steps_by_position_and_by_name(self):
        calls = [("do", {"deed": 0}), ("add_lot", {"deed": 1, "lot": ()}), ("drop_lot", {"deed": 1, "lot": (0,)})]
        for pair in itertools.permutations(calls, 2):
            session, other = Session(B), Session(B)
            for name, given in pair:
                self.assertIsNone(getattr(session, name)(**given))
                self.assertIsNone(getattr(other, name)(*given.values()))
            self.assertTrue(session == other)
