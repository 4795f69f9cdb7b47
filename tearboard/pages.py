"""Pages: a board as it is written, row by row, and read again."""

from tearboard.board import Board
from tearboard.deeds import are_notes
from tearboard.errors import BadText, TearError
from tearboard.texts import read_book, read_row


def page(board):
    """The page of a board: its book's row and for each pad its row's, a line feed behind each."""
    return str(board)


def read_page(text):
    """The board whose page this is."""
    # What stands behind the last line feed is no row; if it is something, it is one that lacks its line feed.
    *lines, rest = text.split("\n")
    book = book_of_line(lines)
    rows = [row_of_line(book, lines, pad) for pad in range(book.pads())]
    many = 1 + len(rows)
    if len(lines) > many or rest != "":
        raise BadText(many)
    return Board(book, rows=rows)


def book_of_line(lines):
    """The book that the first line tells."""
    if len(lines) == 0:
        raise BadText(0)
    try:
        return read_book(lines[0])
    except TearError:
        raise BadText(0) from None


def row_of_line(book, lines, pad):
    """The row that the line of a pad tells."""
    at = pad + 1
    if len(lines) <= at:
        raise BadText(at)
    try:
        lead, turn = read_row(lines[at])
    except BadText:
        raise BadText(at) from None
    if not are_notes(book, pad, lead + turn):
        raise BadText(at)
    return lead, turn
