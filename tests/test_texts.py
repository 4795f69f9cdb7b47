"""Texts of rows and books (point [13], the interface's texts.py)."""

import itertools
import unittest

from model import chance_book, chance_row, seeded
from refusing import Refusing
from tearboard.books import Book
from tearboard.errors import BadColours, BadFigure, BadText, Meeting, TooMany
from tearboard.rows import least_row
from tearboard.texts import book_text, read_book, read_row, row_text

ROWS = [
    ("-", ((), ())),
    ("0", ((0,), ())),
    ("12", ((1, 2), ())),
    ("000", ((0, 0, 0), ())),
    ("(0)", ((), (0,))),
    ("0120(13)", ((0, 1, 2, 0), (1, 3))),
    ("0(12)", ((0,), (1, 2))),
    ("3(0)", ((3,), (0,))),
    ("(010)", ((), (0, 1, 0))),
    ("0" * 400, ((0,) * 400, ())),
    ("0" * 400 + "(3)", ((0,) * 400, (3,))),
    ("(000000000001)", ((), (0,) * 11 + (1,))),
    ("3" * 400 + "(300000000001)", ((3,) * 400, (3,) + (0,) * 10 + (1,))),
]
BAD_ROWS = [
    "", " ", "--", "-0", "0-", "-(0)", "(-)", "()", "0()", "(", ")", "0(", "0)", "(0", "0(12", "0(12))", "((0))",
    "(0)(1)", "(0)1", "0(1)2", " 0", "0 ", "0 1", "0,1", "0(1 2)", "0 (12)", "(1) ", "4", "01a", "0(14)", "9", "+1",
    "02(12)", "(00)", "(0101)", "0(0)", "1(01)", "12(12)", "0\n", "\n", "-\n", "(0)\n", "\n0", "a", "[0]", "0(1]", "_",
    "0" * 401, "1" * 401 + "(0)", "(0000000000001)", "2(0000000000001)", "(010101010101)", "(01010101010101)",
    "0" * 9000, "(" * 9000, "0" * 400 + "(0)",
]
BOOKS = [
    ("1", [1], []),
    ("4,4,4,4,4,4", [4] * 6, []),
    ("2,3 / 0:1*2 1:0 / 1:2", [2, 3], [((0, 1, 2), (1, 0, 1)), ((1, 2, 1),)]),
    ("2 / 0:0 / 0:1*3", [2], [((0, 0, 1),), ((0, 1, 3),)]),
    ("1,1,1 / 0:0 1:0*2 2:0*3", [1] * 3, [((0, 0, 1), (1, 0, 2), (2, 0, 3))]),
    ("4,4,4,4,4,4 / 0:3 5:3*3 / 1:2*2 5:0", [4] * 6, [((0, 3, 1), (5, 3, 3)), ((1, 2, 2), (5, 0, 1))]),
]
BAD_BOOKS = [
    "", " ", "-", "a", "2,", ",2", "2,,3", "2, 3", "2 ,3", "2;3", " 2", "2 ", "02", "2,03", "00", "+2", "-2", "2.",
    "2\n", "2\n3", "\n2", "2 /", "2 / ", "2/0:0", "2 /0:0", "2/ 0:0", "2  / 0:0", "2 /  0:0", "2 / 0:0 ",
    "2 / 0:0 /", "2 / 0:0 / ", "2 /  / 0:1", "2 / / 0:1", " / 0:0", "/ 0:0", "2 / 0:0*1", "2 / 0:0*01",
    "2 / 0:0*02", "2 / 0:0*", "2 / 0:0*2*2", "2 / 0:0**2", "2 / 0", "2 / 0:", "2 / :0", "2 / :", "2 / 0:0:2",
    "2 / 0::0", "2 / 00:0", "2 / 0:00", "2 / 0:01", "2 / 01:0", "2 / 0:-1", "2 / -1:0", "2 / 0:0*-2", "2 / 0:0 * 2",
    "2 / 0: 0", "2 / 0 :0", "2,2 / 0:0  1:0", "2,2 / 0:0,1:0", "2,2 / 0:0\n1:0", "2 / 0:0\n", "12345", "2,10000",
    "2 / 10000:0", "2 / 0:10000", "2 / 0:0*10000", "2 / 0:0*00", "2 / 0:a", "2 / a:0", "2 / 0:0*a", "2 / 0:0+2",
    "9" * 9000, "2 / 0*2:0", "2 / *2", "2 / 0:*2",
]
# Each told row of the notes 0 and 1 that is written with at most five signs.
NOTES = [notes for many in range(6) for notes in itertools.product(range(2), repeat=many)]
SHORT_ROWS = {
    row_text(row): row for row in itertools.product(NOTES, NOTES)
    if len(row_text(row)) <= 5 and least_row(*row) == row
}


class Rows(Refusing):
    def test_there_and_back(self):
        for text, row in ROWS:
            self.assertEqual(row_text(row), text)
            self.assertEqual(read_row(text), row)

    def test_told_kinds(self):
        for text in ("-", "01", "0(12)", "(0)"):
            told = read_row(text=text)
            self.assertEqual([type(part) for part in (told, *told)], [tuple] * 3)
        self.assertIs(type(row_text(row=((), ()))), str)

    def test_other_texts(self):
        for text in BAD_ROWS:
            with self.subTest(text=text):
                self.refuses(BadText, {"at": 0}, read_row, text)

    def test_every_short_text(self):
        signs = "014()- "
        for many in range(6):
            for text in map("".join, itertools.product(signs, repeat=many)):
                try:
                    row = read_row(text)
                except BadText:
                    row = None
                self.assertEqual(row, SHORT_ROWS.get(text), text)

    def test_many_rows(self):
        chance = seeded(11)
        for _ in range(300):
            lead, turn = chance_row(chance, 4, lead=20, turn=12, rounds=0.6)
            row = least_row(lead, turn)
            self.assertEqual(read_row(row_text(row)), row)
            text = "".join(map(str, lead)) + ("(" + "".join(map(str, turn)) + ")" if turn else "")
            if row != (tuple(lead), tuple(turn)):
                self.refuses(BadText, {"at": 0}, read_row, text)


class Books(Refusing):
    def test_there_and_back(self):
        for text, colours, figures in BOOKS:
            book = Book(colours, figures=figures)
            self.assertEqual(book_text(book), text)
            self.assertEqual(str(book), text)
            self.assertEqual(read_book(text), book)
        self.assertEqual(read_book(text="2"), Book([2]))
        self.assertEqual(book_text(book=Book([2])), "2")

    def test_many_books(self):
        chance = seeded(12)
        for _ in range(200):
            book = chance_book(chance, pads=6, colours=4, figures=12)
            self.assertEqual(read_book(book_text(book)), book)

    def test_other_texts(self):
        for text in BAD_BOOKS:
            with self.subTest(text=text):
                self.refuses(BadText, {"at": 0}, read_book, text)

    def test_so_written_and_yet_no_book(self):
        for text, at in (("0", 0), ("5", 0), ("2,9999", 1), ("9999", 0), ("2,2,2,2,2,2,2", -1), ("9,9,9,9,9,9,9", -1)):
            self.refuses(BadColours, {"at": at}, read_book, text)
        for text, at in (("2 / 1:0", 0), ("2 / 0:2", 0), ("2 / 0:0*0", 0), ("2 / 0:0*4", 0), ("2 / 0:0 / 0:9999", 1),
                         ("2,2 / 1:0 0:0", 0), ("2 / 0:0 0:0", 0), ("2 / 0:0 / 9999:0", 1), ("2 / 0:0*9999", 0)):
            self.refuses(BadFigure, {"at": at}, read_book, text)
        self.refuses(Meeting, {"one": 0, "other": 1}, read_book, "2 / 0:0 / 0:0*2")
        self.refuses(TooMany, {"most": 12}, read_book, "4" + " / 0:0" * 13)

    def test_the_text_goes_ahead_of_the_book(self):
        self.refuses(BadText, {"at": 0}, read_book, "9 / 0:00")
        self.refuses(BadText, {"at": 0}, read_book, "2 / 0:7 / 0:1*1")
        self.refuses(BadText, {"at": 0}, read_book, "4" + " / 0:0" * 13 + " ")
        self.refuses(BadColours, {"at": 0}, read_book, "9" + " / 0:0" * 13)


if __name__ == "__main__":
    unittest.main()
