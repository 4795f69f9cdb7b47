"""Pages of boards (point [13], the interface's pages.py)."""

import re
import unittest

from model import chance_book, chance_rows, plain_least, seeded
from refusing import Refusing
from tearboard.board import Board
from tearboard.books import Book
from tearboard.errors import BadText, NothingAgain, NothingBack, TearError
from tearboard.pages import page, read_page

BOOK = Book([2, 3], figures=[((0, 1, 2), (1, 0, 1)), ((1, 2, 1),)])
TEXT = "2,3 / 0:1*2 1:0 / 1:2\n101\n02(01)\n"
# The signs that stand in pages, and some that do not.
SIGNS = "0123456789,:/*()- \n%az~"


def is_row(text, colours):
    """Whether a text is a row of a pad with so many colours, by its signs and by trying shorter rounds and leads."""
    if text == "-":
        return True
    found = re.fullmatch(r"([0-3]*)(?:\(([0-3]+)\))?", text)
    if not found or text == "":
        return False
    lead, turn = [tuple(int(sign) for sign in notes or "") for notes in found.groups()]
    if len(lead) > 400 or len(turn) > 12 or plain_least(lead, turn) != (lead, turn):
        return False
    return all(note < colours for note in lead + turn)


def plain_book(text):
    """The book of a text; None where it is not so written or is refused."""
    number = r"(?:0|[1-9][0-9]{0,3})"
    triple = rf"{number}:{number}(?:\*(?!1(?![0-9])){number})?"
    figure = rf"{triple}(?: {triple})*"
    if not re.fullmatch(rf"{number}(?:,{number})*(?: / {figure})*", text):
        return None
    colours, *figures = text.split(" / ")
    shapes = []
    for some in figures:
        numbers = [[int(word) for word in re.split("[:*]", one)] for one in some.split(" ")]
        shapes.append(tuple((*one, 1)[:3] for one in numbers))
    try:
        return Book([int(word) for word in colours.split(",")], figures=shapes)
    except TearError:
        return None


def first_bad(text):
    """The number of the first row of a text that keeps it from being a page; None where it is one."""
    rows = re.findall(r"[^\n]*\n|[^\n]+", text)
    book = plain_book(rows[0][:-1]) if rows and rows[0].endswith("\n") else None
    if book is None:
        return 0
    for pad, colours in enumerate(book.colours()):
        if len(rows) <= pad + 1 or not rows[pad + 1].endswith("\n") or not is_row(rows[pad + 1][:-1], colours):
            return pad + 1
    return book.pads() + 1 if len(rows) > book.pads() + 1 else None


def lines_of(text):
    return re.findall(r"[^\n]*\n|[^\n]+", text)


def bent(chance, text):
    """The text bent in one place."""
    at, kind = chance.randint(0, len(text)), chance.randrange(8)
    rows = lines_of(text)
    one, other = chance.randrange(len(rows)) if rows else 0, chance.randrange(len(rows)) if rows else 0
    if kind == 0:
        return text[:at] + text[at + 1:]
    if kind == 1:
        return text[:at] + chance.choice(SIGNS) + text[at:]
    if kind == 2:
        return text[:at] + chance.choice(SIGNS) + text[at + 1:]
    if kind == 3:
        return "".join(rows[:one] + rows[one + 1:])
    if kind == 4:
        return "".join(rows[:one] + rows[one:one + 1] + rows[one:])
    if kind == 5 and rows:
        rows[one], rows[other] = rows[other], rows[one]
        return "".join(rows)
    if kind == 6:
        feeds = [place for place, sign in enumerate(text) if sign == "\n"] or [0]
        place = chance.choice(feeds)
        return text[:place] + text[place + 1:]
    return text[:at]


def worn_board(chance):
    """A board behind some deeds, and something asked of it."""
    book = chance_book(chance, pads=6, colours=4, figures=8)
    board = Board(book, rows=chance_rows(chance, book, lead=8, turn=5, rounds=0.4))
    for _ in range(chance.randint(0, 4)):
        pad = chance.randrange(book.pads())
        deed = chance.choice([("put", pad, 0), ("sweep",), ("reset", pad, [0] * chance.randint(0, 5), [])])
        board.do(deed)
    if board.steps()[0] and chance.random() < 0.3:
        board.undo()
    try:
        board.heap()
    except TearError:
        pass
    return board


class Pages(Refusing):
    def test_page(self):
        board = Board(BOOK, rows=[([1, 0, 1], []), ([0], [2, 0, 1])])
        self.assertEqual(page(board), "2,3 / 0:1*2 1:0 / 1:2\n101\n0(201)\n")
        self.assertEqual(page(Board(BOOK)), "2,3 / 0:1*2 1:0 / 1:2\n-\n-\n")
        self.assertEqual(page(board=Board(Book([4]), rows=[([], [3, 3])])), "4\n(3)\n")

    def test_read_page(self):
        board = read_page(TEXT)
        self.assertEqual((board.book(), board.rows()), (BOOK, [((1, 0, 1), ()), ((0, 2), (0, 1))]))
        self.assertEqual(read_page(text="1\n-\n"), Board(Book([1])))
        self.assertEqual(read_page("1\n" + "0" * 400 + "\n").rows(), [((0,) * 400, ())])

    def test_boards_behind_deeds_there_and_back(self):
        chance = seeded(131)
        for _ in range(200):
            board = worn_board(chance)
            before = (board.rows(), board.steps(), board.kept(), board.found())
            text = page(board)
            self.assertEqual(text, str(board))
            self.assertIsNone(first_bad(text))
            other = read_page(text)
            self.assertEqual(other, board)
            self.assertEqual(page(other), text)
            self.assertEqual((other.steps(), other.kept(), other.found()), ((0, 0), 0, 0))
            self.refuses(NothingBack, {}, other.undo)
            self.refuses(NothingAgain, {}, other.redo)
            # The read board goes its own way.
            other.reset(0, [])
            self.assertEqual((board.rows(), board.steps(), board.kept(), board.found()), before)

    def test_the_number_of_the_first_bad_row(self):
        head = "2,3 / 0:1*2 1:0 / 1:2\n"
        for text, at in (
            ("", 0), ("\n", 0), ("\n\n", 0), ("2,3", 0), ("2,3 / 0:1*2 1:0 / 1:2", 0), ("x\n1\n1\n", 0), (" 2\n-\n", 0),
            ("\n" + TEXT, 0), ("02\n-\n", 0), ("-\n-\n", 0), ("2 / 0:0*1\n-\n", 0),
            # So written, and refused as a book: colours, too many pads or figures, a figure, two that meet.
            ("5\n-\n", 0), ("0\n-\n", 0), ("1,1,1,1,1,1,1\n" + "-\n" * 7, 0), ("2 / 0:2\n-\n", 0),
            ("2 / 0:0*4\n-\n", 0),
            ("2 / 1:0\n-\n", 0), ("2 / 0:0 / 0:0*2\n-\n", 0), ("2" + " / 0:0" * 13 + "\n-\n", 0),
            ("2,2 / 1:0 0:0\n-\n-\n", 0),
            # Lacking, or without its line feed.
            (head, 1), (head + "101", 1), (head + "101\n", 2), (head + "101\n02", 2), ("1\n", 1), ("1\n-", 1),
            # Not so written, or no row of its pad.
            (head + "\n02\n", 1), (head + "102\n02\n", 1), (head + "101\n03\n", 2), (head + "3\n3\n", 1),
            (head + "1 0\n0\n", 1), (head + "1\n00(0)\n", 2), (head + "1\n(00)\n", 2), (head + "(2)\n-\n", 1),
            (head + "1\n0(13)\n", 2), (head + "0" * 401 + "\n0\n", 1), (head + "1\n(0000000000001)\n", 2),
            (head + "-\n--\n", 2), (head + "4\n-\n", 1), (head + "-\n-1\n", 2),
            # One more.
            (head + "-\n-\n\n", 3), (head + "-\n-\n-\n", 3), (head + "-\n-\n ", 3), (head + "-\n-\n-", 3),
            (head + "-\n-\n-\n-\n-\n", 3), ("1\n-\n1\n-\n", 2), ("1\n-\n\n\n", 2),
            # Of several the first.
            ("2,3\nx\nx\nx\n", 1), ("2,3\n-\nx\nx", 2), ("x", 0), ("x\nx", 0), ("2,3\nx", 1), ("0" * 9000, 0),
            ("1\n" + "0" * 8998, 1), ("\n" * 9000, 0),
        ):
            self.assertEqual(first_bad(text), at, text)
            self.refuses(BadText, {"at": at}, read_page, text)

    def test_bent_pages(self):
        chance = seeded(132)
        seen = {}
        for _ in range(2500):
            text = page(worn_board(chance)) if chance.random() < 0.8 else TEXT
            for _ in range(chance.choice((1, 1, 2))):
                text = bent(chance, text)
            at = first_bad(text)
            seen[at] = seen.get(at, 0) + 1
            if at is None:
                self.assertEqual(page(read_page(text)), text)
            else:
                self.refuses(BadText, {"at": at}, read_page, text)
        self.assertGreater(min(seen[at] for at in (None, 0, 1, 2, 3, 4, 5, 6)), 20)


if __name__ == "__main__":
    unittest.main()
