"""Promise [26]: the desk."""

import random

from opendeeds.chance import ahead_chance
from opendeeds.desk import Desk
from opendeeds.errors import BadCommand, BadDeed, BadLot, BadSet, Full, NothingToUndo, NotYet
from opendeeds.session import Session
from opendeeds.shutting import closure, corners
from samples import B, Soon, any_objects, lots_of, subsets, told_full_runs, told_reach, told_states

QUESTIONS = ["may", "run", "left", "on", "states", "runs", "order"]
TWENTY = "1" + 19 * "0"


def led_by(*rows):
    """A desk that has been said these rows."""
    desk = Desk()
    for row in rows:
        desk.say(row)
    return desk


def all_told(desk):
    """All that a desk tells, also when its steps are taken back in turn."""
    told = [desk.say(row) for row in QUESTIONS]
    session = desk.session()
    while True:
        told.append((session.book(), session.run()))
        try:
            session.undo()
        except NothingToUndo:
            return told


class Desks(Soon):
    def answers(self, desk, *pairs):
        """The desk answers each row so."""
        for row, words in pairs:
            self.gives(words, desk.say, row)

    def keeps(self, error, desk, row):
        """The row raises just this error, and nothing of the desk has changed."""
        before = all_told(desk)
        self.refuses(error, desk.say, row)
        self.assertEqual(all_told(desk), before)


class Rows(Desks):
    def test_a_new_desk(self):
        self.answers(
            Desk(),
            ("may", "0 2"),
            ("run", "none"),
            ("left", "0 1 2"),
            ("on", "4"),
            ("states", "7"),
            ("runs", "4"),
            ("order", "no"),
        )
        self.assertTrue(Desk().session() == Session(B))

    def test_do_and_undo(self):
        desk = Desk()
        self.answers(desk, ("do 2", "ok"), ("run", "2"), ("may", "0 1"), ("left", "0 1"), ("on", "2"))
        self.answers(desk, ("do 0", "ok"), ("run", "2 0"), ("may", "1"), ("left", "1"), ("on", "1"))
        self.answers(desk, ("do 1", "ok"), ("run", "2 0 1"), ("may", "none"), ("left", "none"), ("on", "1"))
        self.answers(desk, ("undo", "ok"), ("run", "2 0"), ("undo", "ok"), ("undo", "ok"), ("run", "none"))
        self.keeps(NothingToUndo, desk, "undo")

    def test_add_and_drop(self):
        desk = Desk()
        self.answers(desk, ("add 1 -", "ok"), ("may", "0 1 2"), ("states", "8"), ("runs", "6"))
        self.answers(desk, ("order", "yes"), ("add 1 0,2", "ok"))
        self.assertEqual(desk.session().book(), (((),), ((), (0,), (0, 2), (2,)), ((),)))
        self.answers(desk, ("drop 1 -", "ok"), ("drop 1 0", "ok"), ("drop 1 2", "ok"))
        self.assertEqual(desk.session().book(), (((),), ((0, 2),), ((),)))
        self.answers(desk, ("may", "0 2"), ("states", "5"), ("runs", "2"), ("order", "yes"))
        self.answers(desk, ("drop 0 -", "ok"), ("left", "2"), ("states", "2"), ("drop 2 -", "ok"))
        self.answers(desk, ("may", "none"), ("left", "none"), ("runs", "1"), ("states", "1"), ("on", "1"))
        self.answers(desk, ("undo", "ok"), ("may", "2"))

    def test_corners(self):
        desk = Desk()
        for deeds in subsets(range(3))[1:]:
            row = " ".join(["corners", *map(str, deeds)])
            told = " ".join(map(str, corners(B, closure(B, deeds))))
            self.answers(desk, (row, told))
        self.answers(desk, ("corners 0 2", "0 2"), ("corners 1", "1"), ("corners 0 1 2", "0 2"))

    def test_chance(self):
        desk = Desk()
        self.answers(desk, ("chance 0 2", "1 2"), ("chance 0 1", "3 4"), ("chance 1 2", "1 4"))
        desk = led_by("drop 1 2")
        self.answers(desk, ("chance 0 1", "1 1"), ("chance 1 0", "0 1"))

    def test_the_book_alone_whatever_is_done(self):
        rows = ["states", "runs", "order", "corners 0 1 2", "corners 1", "chance 0 1", "chance 2 1"]
        told = [Desk().say(row) for row in rows]
        for run in told_full_runs(B):
            desk = Desk()
            for deed in run:
                desk.say(f"do {deed}")
                self.assertEqual([desk.say(row) for row in rows], told)

    def test_numbers_and_lots_of_the_book_as_it_is(self):
        desk = led_by("add 0 1,2", "add 2 1", "drop 0 -", "drop 1 0")
        book = ((((1, 2),), ((2,),), ((), (1,))))
        self.assertEqual(desk.session().book(), book)
        self.answers(
            desk,
            ("states", str(len(told_states(book)))),
            ("runs", str(len(told_full_runs(book)))),
            ("left", " ".join(map(str, told_reach(book)))),
            ("order", "yes"),
            ("chance 2 0", " ".join(map(str, ahead_chance(book, 2, 0)))),
        )

    def test_by_name(self):
        self.assertEqual(Desk().say(row="may"), "0 2")


class SessionErrors(Desks):
    def test_do(self):
        desk = led_by("do 0")
        self.keeps(BadDeed, desk, "do 3")
        self.keeps(BadDeed, desk, f"do {TWENTY}")
        self.keeps(NotYet, desk, "do 0")
        self.keeps(NotYet, Desk(), "do 1")

    def test_add(self):
        desk = led_by("do 0")
        self.keeps(BadDeed, desk, "add 3 0")
        self.keeps(BadDeed, desk, "add 3 3")
        for lot in ["1", "0,1", "2,0", "0,0", "3", "0,3", "0", "2", TWENTY, f"0,{TWENTY}"]:
            self.keeps(BadLot, desk, f"add 1 {lot}")
        self.keeps(BadLot, desk, "add 0 -")

    def test_drop(self):
        desk = led_by("do 0", "do 1")
        self.keeps(BadDeed, desk, "drop 3 0")
        for lot in ["-", "0,2", "1", "2,0", TWENTY]:
            self.keeps(BadLot, desk, f"drop 1 {lot}")
        self.keeps(NotYet, desk, "drop 1 0")
        self.keeps(NotYet, desk, "drop 0 -")
        self.answers(desk, ("drop 1 2", "ok"))

    def test_undo(self):
        self.keeps(NothingToUndo, Desk(), "undo")

    def test_corners(self):
        desk = Desk()
        for row in ["corners 3", "corners 1 0", "corners 0 0", "corners 0 1 2 3", f"corners {TWENTY}"]:
            self.keeps(BadSet, desk, row)
        desk = led_by("drop 0 -")
        self.keeps(BadSet, desk, "corners 0")
        self.answers(desk, ("corners 2", "2"))

    def test_chance(self):
        desk = Desk()
        for row in ["chance 0 0", "chance 3 0", "chance 0 3", f"chance {TWENTY} 0"]:
            self.keeps(BadDeed, desk, row)
        self.keeps(BadDeed, led_by("drop 0 -"), "chance 0 2")

    def test_full(self):
        desk = led_by(*["add 1 0,2", "drop 1 0,2"] * 25)
        for row in ["do 0", "add 1 -", "drop 1 0"]:
            self.keeps(Full, desk, row)
        self.keeps(NotYet, desk, "do 1")
        self.keeps(BadDeed, desk, "do 3")
        self.keeps(BadLot, desk, "add 1 0")
        self.keeps(BadCommand, desk, "do 00")
        self.answers(desk, ("undo", "ok"), ("do 0", "ok"))
        self.keeps(Full, desk, "do 2")

    def test_all_lots_of_three_deeds(self):
        # No deed of three has more than four lots, so that none of them is one too many.
        desk = Desk()
        for deed in range(3):
            for lot in lots_of(deed, 3):
                if lot not in B[deed]:
                    desk.say(f"add {deed} {','.join(map(str, lot)) or '-'}")
        self.assertEqual(desk.session().book(), tuple(tuple(lots_of(deed, 3)) for deed in range(3)))


class NoRows(Desks):
    def bad(self, *rows):
        """Each of these is no row of any form."""
        desk = led_by("do 0", "add 1 -")
        for row in rows:
            self.keeps(BadCommand, desk, row)

    def test_other_words(self):
        self.bad("", "none", "ok", "help", "mays", "ma", "May", "MAY", "may,", "may.", "0", "-", "state")
        self.bad("do0", "do,0", "do-0", "do:0", "Do 0", "DO 0", "corner 0", "chances 0 1", "orders", "add1 -")

    def test_empty_words(self):
        for row in [*QUESTIONS, "undo", "do 2", "add 1 0,2", "drop 1 0", "corners 0 1", "chance 0 1"]:
            self.bad(" " + row, row + " ", "  " + row, row + "  ")
            if " " in row:
                self.bad(row.replace(" ", "  "), row.replace(" ", "   "), row.replace(" ", "  ", 1))
        self.bad(" ", "  ", "do ", "add 1 ", "corners ", "chance 0 ", "chance  0")

    def test_other_signs(self):
        self.bad("may\n", "\nmay", "may\t", "\tmay", "do\t2", "do\n2", "do 2\n", "do 2\t", "add 1\t-", "do 2\n ")
        self.bad("may!", "do 2;", "do (2)", "do [2]", "do '2'", "corners 0,1", "chance 0/1")

    def test_one_word_too_few_or_too_many(self):
        for row in [*QUESTIONS, "undo"]:
            self.bad(row + " 0", row + " -", f"{row} {row}")
        self.bad("do", "do 2 1", "do 2 -", "add", "add 1", "add 1 0,2 -", "add 1 0 2", "drop", "drop 1")
        self.bad("drop 1 0 2", "corners", "chance", "chance 0", "chance 0 1 2")

    def test_numbers(self):
        for word in ["00", "01", "02", "-0", "-1", "+1", "1.0", "1e0", "0x1", "1_0", "a", "one", "True", "1-", "None"]:
            self.bad(f"do {word}", f"add {word} -", f"drop {word} 0", f"corners {word}", f"corners 0 {word}")
            self.bad(f"chance {word} 0", f"chance 0 {word}", f"add 1 {word}", f"add 1 0,{word}", f"add 1 {word},2")
            self.bad(f"drop 1 {word}")
        self.bad("do 0000000000", "do ,", "corners -", "chance - 0", "do -", "add - -")

    def test_twenty_digits_and_twenty_one(self):
        desk = Desk()
        self.keeps(BadDeed, desk, "do 1" + 19 * "0")
        self.keeps(BadCommand, desk, "do 1" + 20 * "0")
        self.keeps(BadDeed, desk, "do " + 20 * "9")
        self.keeps(BadCommand, desk, "do " + 21 * "9")
        self.keeps(BadCommand, desk, "do " + 20 * "0")
        self.keeps(BadLot, desk, "add 1 " + 20 * "9")
        self.keeps(BadCommand, desk, "add 1 " + 21 * "9")
        self.keeps(BadLot, desk, "add 1 0," + 20 * "9")
        self.keeps(BadCommand, desk, "add 1 0," + 21 * "9")
        self.keeps(BadSet, desk, "corners 0 " + 20 * "9")
        self.keeps(BadCommand, desk, "corners 0 " + 21 * "9")
        self.keeps(BadDeed, desk, "chance 0 " + 20 * "9")
        self.keeps(BadCommand, desk, "chance 0 " + 21 * "9")

    def test_lots(self):
        for lot in [",", "0,", ",0", "0,,2", "-,0", "0,-", "-,-", "--", "-0", "0;2", "0.2", "0/2", "()", "(0)", "-1"]:
            self.bad(f"add 1 {lot}", f"drop 1 {lot}")

    def test_a_form_counts_ahead_of_all_that_the_row_asks(self):
        self.bad("add 9 00", "add 9 0,,0", "drop 9 x", "chance 9 x", "chance x 9", "corners 9 x", "corners 1 0 x")
        self.bad("do 9 9", "undo 0")

    def test_any_object(self):
        self.bad(*any_objects())
        self.bad(("may",), ["may"], {"may"}, {"may": 1}, b"may", b"do 2", ["do", "2"], None, 0, True)


class Sessions(Desks):
    def test_a_copy_that_goes_its_own_way(self):
        desk = led_by("do 0")
        session = desk.session()
        self.assertIs(type(session), Session)
        self.assertEqual((session.book(), session.run()), (B, (0,)))
        session.do(1)
        session.add_lot(1, ())
        self.answers(desk, ("run", "0"), ("states", "7"), ("do 2", "ok"))
        self.assertEqual(session.run(), (0, 1))
        for _ in range(3):
            session.undo()
        self.refuses(NothingToUndo, session.undo)
        self.answers(desk, ("run", "0 2"), ("undo", "ok"), ("undo", "ok"))
        self.keeps(NothingToUndo, desk, "undo")

    def test_each_call_gives_another_one(self):
        desk = Desk()
        self.assertIsNot(desk.session(), desk.session())
        self.assertTrue(desk.session() == desk.session())

    def test_each_desk_has_its_own(self):
        first, second = Desk(), Desk()
        first.say("do 0")
        self.answers(second, ("run", "none"))

    def test_long_walks_beside_a_session(self):
        chance = random.Random(28)
        desk, session = Desk(), Session(B)
        for _ in range(400):
            deed = chance.randint(0, 3)
            lot = tuple(chance.sample(range(4), chance.choice([0, 1, 1, 2])))
            words = ",".join(map(str, lot)) or "-"
            row, call = chance.choice(
                [
                    (f"do {deed}", lambda: session.do(deed)),
                    (f"add {deed} {words}", lambda: session.add_lot(deed, lot)),
                    (f"drop {deed} {words}", lambda: session.drop_lot(deed, lot)),
                    ("undo", session.undo),
                ]
            )
            try:
                call()
            except ValueError as error:
                self.keeps(type(error), desk, row)
            else:
                self.gives("ok", desk.say, row)
            self.assertTrue(desk.session() == session)
            self.assertEqual(desk.say("on"), str(session.ways_on()))
            self.assertEqual(desk.say("may"), " ".join(map(str, session.may())) or "none")
