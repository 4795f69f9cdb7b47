"""Texts: rows and books as they are written, and read again."""

from tearboard.books import Book
from tearboard.errors import BadText
from tearboard.rows import MOST_LEAD, MOST_ROUND, least_row

NO_NOTES = "-"
MOST_DIGITS = 4


def row_text(row):
    """A told row as it is written: its lead's notes, and its round's in round brackets."""
    lead, turn = row
    if len(lead) + len(turn) == 0:
        return NO_NOTES
    if len(turn) == 0:
        return notes_text(lead)
    return f"{notes_text(lead)}({notes_text(turn)})"


def read_row(text):
    """The told row that is written so."""
    if text == NO_NOTES:
        return (), ()
    lead, bracket, rest = text.partition("(")
    row = read_notes(lead), read_notes(rest.removesuffix(")"))
    # Whatever was read too kindly (a bracket too few, a row not told in its least form) is written otherwise.
    if len(row[0]) > MOST_LEAD or len(row[1]) > MOST_ROUND or row_text(least_row(*row)) != text:
        raise BadText(0)
    return row


def book_text(book):
    """A book as it is written: its colours, and its figures behind strokes."""
    return str(book)


def read_book(text):
    """The book that is written so; what is so written and yet no book, Book refuses."""
    pieces = text.split(" / ")
    colours, *figures = pieces
    numbers = [read_number(word) for word in colours.split(",")]
    shapes = [[read_triple(word) for word in figure.split(" ")] for figure in figures]
    return Book(numbers, figures=shapes)


def notes_text(notes):
    """Notes as they are written, without signs between."""
    return "".join([str(note) for note in notes])


def read_notes(text):
    """The tuple of the notes of a text that has nothing but notes."""
    if not all([sign in "0123" for sign in text]):
        raise BadText(0)
    return tuple([int(sign) for sign in text])


def read_triple(text):
    """The triple of a text PAD:NOTE, or PAD:NOTE*DEPTH where the depth is not 1."""
    pad, colon, rest = text.partition(":")
    note, star, depth = rest.partition("*")
    if star == "":
        return read_number(pad), read_number(note), 1
    if depth == "1":
        raise BadText(0)
    return read_number(pad), read_number(note), read_number(depth)


def read_number(text):
    """The number of a text that is written as one."""
    if not is_number(text):
        raise BadText(0)
    return int(text)


def is_number(text):
    """Whether a text is a number without a needless nought and of at most four figures."""
    return text.isdigit() and len(text) <= MOST_DIGITS and str(int(text)) == text
