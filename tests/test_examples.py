"""The document's examples of the files that are built."""

import unittest

from refusing import Refusing
from tearboard.books import Book
from tearboard.errors import Meeting
from tearboard.rows import least_row


class Examples(Refusing):
    def setUp(self):
        self.book = Book([2, 3], figures=[((0, 1, 2), (1, 0, 1)), ((1, 2, 1),)])

    def test_str_of_a_book(self):
        self.assertEqual(str(self.book), "2,3 / 0:1*2 1:0 / 1:2")

    def test_parts(self):
        self.assertEqual(self.book.parts(), [[0, 1]])

    def test_apart_sets(self):
        self.assertEqual(self.book.apart_sets(), [(), (0,), (1,)])

    def test_meeting(self):
        figures = [((0, 0, 1),), ((0, 0, 2),)]
        self.refuses(Meeting, {"one": 0, "other": 1}, Book, [2], figures=figures)

    def test_least_row(self):
        self.assertEqual(least_row([0, 1, 2], [1, 2, 1, 2]), ((0,), (1, 2)))


if __name__ == "__main__":
    unittest.main()
