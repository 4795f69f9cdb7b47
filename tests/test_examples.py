"""The document's examples."""

import unittest

from refusing import Refusing
from tearboard.board import Board
from tearboard.books import Book
from tearboard.counts import clear, fillings_torn, mean
from tearboard.desk import Desk
from tearboard.errors import BadText, Meeting, NeverClear, NotStanding
from tearboard.heaps import Heap
from tearboard.pages import page
from tearboard.rows import least_row
from tearboard.texts import read_row


class Examples(Refusing):
    def setUp(self):
        self.book = Book([2, 3], figures=[((0, 1, 2), (1, 0, 1)), ((1, 2, 1),)])
        self.board = Board(self.book, rows=[([1, 0, 1], []), ([0, 2], [])])
        self.rings = Board(Book([2], figures=[((0, 0, 1),), ((0, 1, 1),)]), rows=[([], [0, 1])])

    def test_str_of_a_book(self):
        self.assertEqual(str(self.book), "2,3 / 0:1*2 1:0 / 1:2")

    def test_parts(self):
        self.assertEqual(self.book.parts(), [[0, 1]])

    def test_apart_sets(self):
        self.assertEqual(self.book.apart_sets(), [(), (0,), (1,)])

    def test_meeting(self):
        figures = [((0, 0, 1),), ((0, 0, 2),)]
        self.refuses(Meeting, {"one": 0, "other": 1}, Book, [2], figures=figures)

    def test_least_row(self):
        self.assertEqual(least_row([0, 1, 2], [1, 2, 1, 2]), ((0,), (1, 2)))

    def test_standing(self):
        self.assertEqual(self.board.standing(), [0])

    def test_torn(self):
        self.assertEqual(self.board.torn(), [(0, ((1, 0), (0,))), (1, ((2,),))])

    def test_left(self):
        self.assertEqual(self.board.left(), [((1,), ()), ((), ())])

    def test_str_of_a_heap(self):
        self.assertEqual(str(self.board.heap()), "0; 1")

    def test_kept_and_found(self):
        count = len(self.board.heap())
        self.board.change(1, 1, 0)
        self.assertEqual([count, self.board.kept(), self.board.found()], [2, 1, 2])

    def test_not_standing(self):
        self.refuses(NotStanding, {"figure": 1}, self.board.tear, 1)

    def test_story(self):
        self.assertEqual(self.rings.story(0), ("again", 0, 2))

    def test_torn_by(self):
        self.assertEqual(self.rings.torn_by(5), [3, 2])

    def test_never_clear(self):
        self.refuses(NeverClear, {"pad": 0}, self.rings.settle)

    def test_orders(self):
        self.assertEqual(Heap(Book([2, 2], figures=[((0, 0, 1),), ((1, 0, 1),)]), [0, 1, 0]).orders(), 3)

    def test_read_row(self):
        self.assertEqual(read_row("0(12)"), ((0,), (1, 2)))
        self.refuses(BadText, {"at": 0}, read_row, "02(12)")

    def test_clear(self):
        self.assertEqual(clear(Book([2], figures=[((0, 0, 2),)]), [2]), 2)

    def test_fillings_torn(self):
        self.assertEqual(fillings_torn(Book([2], figures=[((0, 0, 2),)]), [2]), {(0,): 2, (2,): 2})

    def test_mean(self):
        self.assertEqual(mean(Book([2], figures=[((0, 0, 1),)]), [[1, 2]], 0), (1, 2))

    def test_page_of_a_board(self):
        self.assertEqual(page(self.board), "2,3 / 0:1*2 1:0 / 1:2\n101\n02\n")
        self.assertEqual(str(self.board), "2,3 / 0:1*2 1:0 / 1:2\n101\n02\n")

    def test_desk(self):
        desk = Desk(self.board)
        first = desk.say("tear 0")
        self.assertEqual([first, desk.say("pad 0"), desk.say("tear 0")], ["done", "1", "no NotStanding"])


if __name__ == "__main__":
    unittest.main()
