"""Promise [5]: books as texts."""

import unittest

from opendeeds.books import is_book
from opendeeds.errors import BadBook, BadRows
from opendeeds.texts import read_book, write_book
from samples import B, CHAIN, DEEP, EACH_OTHER, FORTY, FORTY_ONE, FREE, NEVER, ONE, TOWERS
from samples import Soon, all_books, no_tuples, wrong_books

TEXTS = [
    (B, "0: -\n1: 0 / 2\n2: -"),
    (NEVER, "0: never\n1: 0\n2: -"),
    (EACH_OTHER, "0: 1\n1: 0"),
    (ONE, "0: never"),
    ((((),),), "0: -"),
    ((((), (1,), (1, 2), (2,)), (), ()), "0: - / 1 / 1 2 / 2\n1: never\n2: never"),
    (FREE, "0: -\n1: -\n2: -\n3: -\n4: -\n5: -\n6: -\n7: -"),
    (CHAIN, "0: -\n1: 0\n2: 1\n3: 2\n4: 3\n5: 4\n6: 5\n7: 6"),
    (
        (((1, 2, 3, 4, 5, 6, 7),), *((),) * 6, ((0, 6),)),
        "0: 1 2 3 4 5 6 7\n1: never\n2: never\n3: never\n4: never\n5: never\n6: never\n7: 0 6",
    ),
]

# A text, the row and the word of its first fault.
FAULTS = [
    # The first word of a row.
    ("", 0, 0),
    (" ", 0, 0),
    ("0", 0, 0),
    ("0 : -", 0, 0),
    ("0:-", 0, 0),
    ("00: -", 0, 0),
    ("1: -", 0, 0),
    (" 0: -", 0, 0),
    ("never", 0, 0),
    ("-", 0, 0),
    ("0; -", 0, 0),
    ("0:: -", 0, 0),
    ("+0: -", 0, 0),
    ("\t0: -", 0, 0),
    ("0: -\n0: -", 1, 0),
    ("0: -\n2: -", 1, 0),
    ("0: -\n", 1, 0),
    ("0: -\n\n2: -", 1, 0),
    ("\n0: -", 0, 0),
    ("0: -\n1: -\n 2: -", 2, 0),
    ("0: -\n1: -\n3: -", 2, 0),
    ("0: -\n1: -\n2:-", 2, 0),
    ("0: never\n1: never\n2 never", 2, 0),
    # A row that ends where a deed or - or never must stand.
    ("0:", 0, 1),
    ("0:\n1: -", 0, 1),
    ("0: -\n1:", 1, 1),
    ("0: - /", 0, 3),
    ("0: 1 /\n1: -", 0, 3),
    ("0: 1 2 /\n1: -\n2: -", 0, 4),
    ("0: - / 1 / 1 2 /\n1: -\n2: -", 0, 8),
    # Words that are no deeds.
    ("0: ", 0, 1),
    ("0:  -", 0, 1),
    ("0: x", 0, 1),
    ("0: 1", 0, 1),
    ("0: 2\n1: -", 0, 1),
    ("0: 8\n1: -", 0, 1),
    ("0: 10\n1: -", 0, 1),
    ("0: 01\n1: -", 0, 1),
    ("0: +1\n1: -", 0, 1),
    ("0: -1\n1: -", 0, 1),
    ("0: 1,\n1: -", 0, 1),
    ("0: 1:\n1: -", 0, 1),
    ("0: 1\t\n1: -", 0, 1),
    ("0: 1/2\n1: -\n2: -", 0, 1),
    ("0: --", 0, 1),
    ("0: Never", 0, 1),
    ("0: nevermore", 0, 1),
    ("0: //", 0, 1),
    ("0: /", 0, 1),
    ("0: / -", 0, 1),
    ("0: / 1\n1: -", 0, 1),
    ("0: 1 \n1: -", 0, 2),
    ("0: 1  2\n1: -\n2: -", 0, 2),
    ("0: 1 x\n1: -", 0, 2),
    ("0: 1 3\n1: -\n2: -", 0, 2),
    ("0: 1 x 2\n1: -\n2: -", 0, 2),
    ("0: 1 2 x\n1: -\n2: -", 0, 3),
    ("0: 1 2 \n1: -\n2: -", 0, 3),
    ("0: 1 / x\n1: -", 0, 3),
    ("0: 1 / \n1: -", 0, 3),
    ("0: 1 / / 2\n1: -\n2: -", 0, 3),
    ("0: 1 /  2\n1: -\n2: -", 0, 3),
    ("0: 1  / 2\n1: -\n2: -", 0, 2),
    ("0: - / 1 / 2 / x\n1: -\n2: -", 0, 7),
    ("0: - / 1 / x / 2\n1: -\n2: -", 0, 5),
    ("0: -\n1: 0\n2: 0 3", 2, 2),
    # This row's own deed.
    ("0: 0", 0, 1),
    ("0: 0\n1: -", 0, 1),
    ("0: -\n1: 1", 1, 1),
    ("0: -\n1: 0 1\n2: -", 1, 2),
    ("0: -\n1: 0 1 2\n2: -", 1, 2),
    ("0: -\n1: -\n2: 0 1 2", 2, 3),
    ("0: -\n1: 0 / 1\n2: -", 1, 3),
    # Deeds that are not greater than the one ahead in their lot.
    ("0: 1 1\n1: -", 0, 2),
    ("0: 2 1\n1: -\n2: -", 0, 2),
    ("0: 1 2 2\n1: -\n2: -", 0, 3),
    ("0: 1 3 2\n1: -\n2: -\n3: -", 0, 3),
    ("0: 1 / 2 1\n1: -\n2: -", 0, 4),
    # - beside another word of its lot.
    ("0: - -", 0, 1),
    ("0: - \n1: -", 0, 1),
    ("0: - 1\n1: -", 0, 1),
    ("0: - x", 0, 1),
    ("0: - 0", 0, 1),
    ("0: - never", 0, 1),
    ("0: -  / 1\n1: -", 0, 1),
    ("0: 1 -\n1: -", 0, 2),
    ("0: 1 - 2\n1: -\n2: -", 0, 2),
    ("0: 1 2 -\n1: -\n2: -", 0, 3),
    ("0: 1 / - 2\n1: -\n2: -", 0, 3),
    ("0: 1 / 2 -\n1: -\n2: -", 0, 4),
    # never beside another word behind the colon.
    ("0: never never", 0, 1),
    ("0: never ", 0, 1),
    ("0: never /", 0, 1),
    ("0: never / 1\n1: -", 0, 1),
    ("0: never / never", 0, 1),
    ("0: never 1\n1: -", 0, 1),
    ("0: never -", 0, 1),
    ("0: never x", 0, 1),
    ("0: 1 never\n1: -", 0, 2),
    ("0: - / never", 0, 3),
    ("0: 1 / never\n1: -", 0, 3),
    ("0: 1 / 2 never\n1: -\n2: -", 0, 4),
    ("0: -\n1: never /", 1, 1),
    ("0: -\n1: 0 / never", 1, 3),
    # Lots that are not greater than the one ahead.
    ("0: - / -", 0, 3),
    ("0: 1 / -\n1: -", 0, 3),
    ("0: 1 / 1\n1: -", 0, 3),
    ("0: 2 / 1\n1: -\n2: -", 0, 3),
    ("0: 2 / 1 2\n1: -\n2: -", 0, 3),
    ("0: 1 2 / 1\n1: -\n2: -", 0, 4),
    ("0: 1 2 / 1 2\n1: -\n2: -", 0, 4),
    ("0: 1 / 2 / 1 2\n1: -\n2: -", 0, 5),
    ("0: - / 1 / 1 2 / 1 2\n1: -\n2: -", 0, 8),
    ("0: -\n1: 2 / 0\n2: -", 1, 3),
    # Of two faults the first: rows, then lots, in a lot its words ahead of its place.
    ("1: x", 0, 0),
    ("1:", 0, 0),
    ("0: x\n0: -", 0, 1),
    ("0: -\n2: -\n1: -", 1, 0),
    ("0: -\n1: x\n2:", 1, 1),
    ("0: 0\n1: 1", 0, 1),
    ("0: x y", 0, 1),
    ("0: 1 1 x\n1: -", 0, 2),
    ("0: 2 1 / x\n1: -\n2: -", 0, 2),
    ("0: 2 / 1 x\n1: -\n2: -", 0, 4),
    ("0: 2 / 1 1\n1: -\n2: -", 0, 4),
    ("0: 2 / 1 / x\n1: -\n2: -", 0, 3),
    ("0: 2 / 1 /\n1: -\n2: -", 0, 3),
    ("0: 2 / 1 / 1\n1: -\n2: -", 0, 3),
    ("0: - / - /", 0, 3),
    ("0: - / - -", 0, 3),
    ("0: 1 / x /\n1: -", 0, 3),
    ("0: x -\n1: -", 0, 1),
    ("0: 1 - never\n1: -", 0, 2),
    # Nine rows and more.
    ("\n" * 8, 8, 0),
    ("\n" * 9, 8, 0),
    ("\n" * 100000, 8, 0),
    ("x\n" * 8, 8, 0),
    ("\n".join([f"{deed}: -" for deed in range(9)]), 8, 0),
    ("\n".join([f"{deed}: -" for deed in range(12)]), 8, 0),
    ("\n".join([f"{deed}: -" for deed in range(8)]) + "\n", 8, 0),
    ("\n" * 7, 0, 0),
    # Long ones.
    ("0: " + " " * 100000, 0, 1),
    ("0: " + "1 " * 100000 + "\n1: -", 0, 2),
    ("0: " + "/ " * 100000, 0, 1),
    ("0: -" + " / -" * 100000, 0, 3),
    ("9" * 100000, 0, 0),
]


def lots_text(lots):
    """A text of eight rows, the first with these lots."""
    rows = ["0: " + " / ".join(lots)]
    return "\n".join(rows + [f"{deed}: -" for deed in range(1, 8)])


def words_of(lots):
    """The words of each of the lots."""
    return [" ".join(str(deed) for deed in lot) or "-" for lot in lots]


class WriteBook(Soon):
    def test_texts(self):
        for book, text in TEXTS:
            with self.subTest(text):
                self.assertEqual(write_book(book), text)
                self.assertIs(type(write_book(book)), str)

    def test_forty_lots(self):
        text = write_book(FORTY)
        self.assertEqual(text.split("\n")[0], "0: " + " / ".join(words_of(FORTY[0])))
        self.assertEqual(text.count("/"), 39)

    def test_bad_book(self):
        for thing in wrong_books():
            with self.assertRaises(BadBook) as caught:
                write_book(thing)
            self.assertIs(type(caught.exception), BadBook)

    def test_by_name(self):
        self.assertEqual(write_book(book=EACH_OTHER), "0: 1\n1: 0")


class ReadBook(Soon):
    def fault(self, text):
        """The row and the word of the fault that read_book tells."""
        with self.assertRaises(BadRows) as caught:
            read_book(text)
        error = caught.exception
        self.assertEqual((type(error), type(error.row), type(error.word)), (BadRows, int, int))
        return error.row, error.word

    def test_texts(self):
        for book, text in TEXTS:
            with self.subTest(text):
                self.assertEqual(read_book(text), book)

    def test_tuples_and_integers_at_each_depth(self):
        for book in [*all_books(2), B, FORTY, FREE, CHAIN]:
            found = read_book(write_book(book))
            self.assertIs(is_book(found), True)
            self.assertEqual(found, book)

    def test_there_and_back(self):
        for count in (1, 2, 3):
            for book in all_books(count):
                self.assertEqual(read_book(write_book(book)), book)

    def test_faults(self):
        for text, row, word in FAULTS:
            with self.subTest(text[:60]):
                self.assertEqual(self.fault(text), (row, word))

    def test_the_forty_first_lot(self):
        words = words_of(FORTY_ONE[0])
        self.assertEqual(read_book(lots_text(words[:40]))[0], FORTY[0])
        at = len(" / ".join(words[:40]).split(" ")) + 2
        self.assertEqual(self.fault(lots_text(words)), (0, at))
        self.assertEqual(self.fault(lots_text([*words, "x"])), (0, at))
        self.assertEqual(self.fault(lots_text([*words, ""])), (0, at))

    def test_faults_about_the_forty_first_lot(self):
        words = words_of(FORTY[0])
        end = len(" / ".join(words).split(" ")) + 1
        self.assertEqual(self.fault(lots_text(words).replace("\n", " /\n", 1)), (0, end + 1))
        self.assertEqual(self.fault(lots_text([*words, "x"])), (0, end + 1))
        self.assertEqual(self.fault(lots_text([*words, "7 7"])), (0, end + 2))
        self.assertEqual(self.fault(lots_text([*words, "-"])), (0, end + 1))
        self.assertEqual(self.fault(lots_text([*words, "7", "x"])), (0, end + 1))
        self.assertEqual(self.fault(lots_text(["x", *words])), (0, 1))

    def test_no_str(self):
        for thing in [*no_tuples(), *TOWERS, *DEEP, B, ("0: -",), ["0: -"], b"0: -"]:
            if type(thing) is not str:
                self.assertEqual(self.fault(thing), (0, 0))

    def test_one_sign_more_or_less(self):
        books = {write_book(book): book for count in (1, 2, 3) for book in all_books(count)}
        some = [text for text, book in books.items() if len(book) < 3] + list(books)[18::97]
        signs = " \n/-:0123nevr\t"
        for text in some:
            near = [text[:at] + text[at + 1:] for at in range(len(text))]
            near += [text[:at] + sign + text[at:] for at in range(len(text) + 1) for sign in signs]
            for other in near:
                if other in books:
                    self.assertEqual(read_book(other), books[other])
                else:
                    self.fault(other)

    def test_by_name(self):
        self.assertEqual(read_book(text="0: never"), ONE)
        with self.assertRaises(BadRows):
            read_book(text=None)


if __name__ == "__main__":
    unittest.main()
