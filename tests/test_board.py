"""Boards as they are made and asked (points [1], [3] and [4], the interface's board.py)."""

import unittest

from model import chance_book, chance_rows, plain_least, seeded, standing, unrolled
from refusing import Refusing
from tearboard import board as board_file
from tearboard.board import Board
from tearboard.books import Book
from tearboard.errors import BadRow, NoFigure, NoNote, NoPad

HUGE = 10 ** 30 - 1
BOOK = Book([2, 3], figures=[((0, 1, 2), (1, 0, 1)), ((1, 2, 1),)])
BARE = Book([4])


def board_of(*rows, book=BOOK):
    return Board(book, rows=list(rows))


class Making(Refusing):
    def test_the_bound(self):
        self.assertEqual(board_file.MOST_WALKED, 20000)

    def test_none_handed_in(self):
        for board in (Board(BOOK), Board(BOOK, rows=None), Board(rows=None, book=BOOK)):
            self.assertEqual(board.rows(), [((), ()), ((), ())])
            self.assertEqual((board.steps(), board.kept(), board.found()), ((0, 0), 0, 0))

    def test_rows_with_and_without_rounds(self):
        board = board_of(([1, 0, 1], []), ([0, 2], [1, 1, 0]))
        self.assertEqual(board.rows(), [((1, 0, 1), ()), ((0, 2), (1, 1, 0))])
        self.assertEqual(board_of(((), (0,)), ((), ())).rows(), [((), (0,)), ((), ())])

    def test_rows_are_told_least(self):
        board = board_of(([0, 1, 0], [1, 0, 1, 0]), ([2, 0, 1], [2, 2, 0, 1]))
        self.assertEqual(board.rows(), [((), (0, 1)), ((), (2, 0, 1, 2))])
        self.assertEqual(board_of(([0] * 400, [0] * 12), ([], [1] * 12)).rows(), [((), (0,)), ((), (1,))])
        chance = seeded(21)
        for _ in range(100):
            rows = chance_rows(chance, BOOK, lead=9, turn=6, rounds=0.7)
            self.assertEqual(Board(BOOK, rows=rows).rows(), [plain_least(*row) for row in rows])

    def test_counts_of_rows(self):
        row = ([0], [])
        for many in (0, 1, 3, 6, 500):
            self.refuses(BadRow, {"at": -1}, Board, BOOK, rows=[row] * many)
        self.refuses(BadRow, {"at": -1}, Board, BOOK, rows=())
        # The count goes ahead of a row that is none.
        self.refuses(BadRow, {"at": -1}, Board, BOOK, rows=[([9], [])] * 3)

    def test_too_long_as_handed_in(self):
        self.assertEqual(board_of(([0] * 400, []), ([1] * 400, [0] * 11 + [2])).height(0), 400)
        long = (([0] * 401, []), ([0] * 401, [1]), ([0] * 500, []), ([], [0] * 12 + [1]), ([], [0, 1] * 250))
        for lead, turn in long:
            self.refuses(BadRow, {"at": 0}, Board, BOOK, rows=[(lead, turn), ([], [])])
            self.refuses(BadRow, {"at": 1}, Board, BOOK, rows=[([], []), (lead, turn)])
        # Their least forms would not be too long.
        self.refuses(BadRow, {"at": 1}, Board, BOOK, rows=[([], []), ([0] * 401, [0])])
        self.refuses(BadRow, {"at": 1}, Board, BOOK, rows=[([], []), ([], [0] * 13)])

    def test_what_is_no_note(self):
        for bad in (2, -1, 3, HUGE, -HUGE):
            for lead, turn in (([bad], []), ([0, 1, bad], []), ([], [bad]), ([0], [1, 0, bad])):
                self.refuses(BadRow, {"at": 0}, Board, BOOK, rows=[(lead, turn), ([7], [])])
        self.refuses(BadRow, {"at": 1}, Board, BOOK, rows=[([1], []), ([2, 3], [])])
        self.assertEqual(board_of(([1], []), ([2], [])).rows(), [((1,), ()), ((2,), ())])

    def test_the_first_pad_is_told(self):
        self.refuses(BadRow, {"at": 0}, Board, BOOK, rows=[([0] * 401, []), ([9], [])])
        self.refuses(BadRow, {"at": 0}, Board, BOOK, rows=[([9], []), ([0] * 401, [])])

    def test_rows_handed_in_stay_and_are_copied(self):
        lead, turn = [0, 1, 0], [1, 0]
        rows = [[lead, turn], (lead, [])]
        board = Board(BOOK, rows=rows)
        self.assertEqual(rows, [[[0, 1, 0], [1, 0]], ([0, 1, 0], [])])
        lead.clear()
        turn.append(1)
        rows.clear()
        self.assertEqual(board.rows(), [((), (0, 1)), ((0, 1, 0), ())])

    def test_tuples_stand_for_lists(self):
        self.assertEqual(Board(BOOK, rows=(((1, 0), ()), ((0,), (1, 2)))), board_of(([1, 0], []), ([0], [1, 2])))


class Asking(Refusing):
    def test_book(self):
        self.assertEqual(Board(BOOK).book(), BOOK)

    def test_rows_are_a_new_list_of_pairs_of_tuples(self):
        board = board_of(([1], []), ([0], [1, 2]))
        told = board.rows()
        self.assertEqual([type(part) for row in told for part in (row, *row)], [tuple] * 6)
        told.clear()
        self.assertEqual(board.rows(), [((1,), ()), ((0,), (1, 2))])

    def test_seen(self):
        board = board_of(([1, 0, 1], []), ([0, 2], [1, 2, 1]))
        self.assertEqual([board.seen(0, depth) for depth in range(3)], [1, 0, 1])
        self.assertEqual([board.seen(1, depth) for depth in range(10)], unrolled([0, 2], [1, 2, 1], 10))
        self.assertEqual((board.seen(0), board.seen(1), board.seen(depth=1, pad=1)), (1, 0, 2))
        self.assertEqual(board.seen(1, 3 * 10 ** 28 + 3), 2)
        self.assertEqual(board.seen(1, 3 * 10 ** 28 + 4), 1)
        self.assertEqual(board_of(([], []), ([], [0, 2])).seen(1, HUGE), 2)
        self.assertEqual(board_of(([0] * 399 + [1], []), ([], [])).seen(0, 399), 1)
        self.assertEqual(board_of(([], []), ([0] * 400, [1, 2])).seen(1, 401), 2)

    def test_seen_refuses(self):
        board = board_of(([1, 0, 1], []), ([0], [1]))
        for depth in (3, 4, 400, HUGE, -1, -3, -HUGE):
            self.refuses(NoNote, {"depth": depth}, board.seen, 0, depth)
        for depth in (-1, -2, -HUGE):
            self.refuses(NoNote, {"depth": depth}, board.seen, 1, depth)
        self.refuses(NoNote, {"depth": 0}, Board(BOOK).seen, 0)
        for pad in (-1, 2, HUGE, -HUGE):
            self.refuses(NoPad, {"pad": pad}, board.seen, pad)
            self.refuses(NoPad, {"pad": pad}, board.seen, pad, -1)

    def test_height(self):
        board = board_of(([1, 0, 1], []), ([0, 2], [1]))
        self.assertEqual((board.height(0), board.height(pad=1)), (3, None))
        self.assertEqual(Board(BOOK).height(0), 0)
        self.assertEqual(board_of(([1] * 400, []), ([], [1])).height(0), 400)
        self.assertIsNone(board_of(([1] * 400, []), ([], [1])).height(1))
        for pad in (-1, 2, HUGE, -HUGE):
            self.refuses(NoPad, {"pad": pad}, board.height, pad)

    def test_len(self):
        self.assertEqual((len(Board(BOOK)), len(Board(BARE)), len(Board(Book([1] * 6)))), (2, 1, 6))

    def test_str_is_the_page(self):
        self.assertEqual(str(board_of(([1, 0, 1], []), ([0, 2], []))), "2,3 / 0:1*2 1:0 / 1:2\n101\n02\n")
        self.assertEqual(str(board_of(([], [0, 0]), ([2], [1, 2]))), "2,3 / 0:1*2 1:0 / 1:2\n(0)\n(21)\n")
        self.assertEqual(str(Board(BOOK)), "2,3 / 0:1*2 1:0 / 1:2\n-\n-\n")
        self.assertEqual(str(Board(BARE)), "4\n-\n")

    def test_repr(self):
        self.assertEqual(repr(board_of(([1, 0, 1], []), ([0, 2], []))), "Board(2 pads, 1 standing)")
        self.assertEqual(repr(Board(BARE)), "Board(1 pads, 0 standing)")
        six = Book([1] * 6, figures=[((pad, 0, 1),) for pad in range(6)])
        self.assertEqual(repr(Board(six, rows=[([0], [])] * 6)), "Board(6 pads, 6 standing)")

    def test_equal(self):
        board = board_of(([1, 0, 1], []), ([0], [1]))
        again = Book([2, 3], figures=BOOK.figures())
        self.assertTrue(board == Board(again, rows=[([1, 0, 1], []), ([0, 1], [1, 1])]))
        self.assertFalse(board != Board(again, rows=[([1, 0, 1], []), ([0, 1], [1, 1])]))
        self.assertFalse(board == board_of(([1, 0, 1], []), ([0], [])))
        self.assertFalse(board == board_of(([1, 0, 1], [1]), ([0], [1])))
        for book in (Book([2, 3]), Book([3, 3], figures=BOOK.figures()), Book([2, 3], figures=BOOK.figures()[::-1])):
            self.assertFalse(board == Board(book, rows=board.rows()))
            self.assertTrue(board != Board(book, rows=board.rows()))
        for other in (board.rows(), str(board), BOOK, None, 2, board.heap()):
            self.assertFalse(board == other)
            self.assertTrue(board != other)

    def test_equal_whatever_was_done_and_asked(self):
        board, other = board_of(([1], []), ([0], [])), board_of(([], []), ([0], []))
        other.put(0, 1)
        other.heap()
        self.assertEqual(board, other)


class Standing(Refusing):
    def test_depths_just_long_enough_and_one_too_short(self):
        for depth in (1, 2, 3):
            book = Book([2], figures=[((0, 1, depth),)])
            for many in range(6):
                board = Board(book, rows=[([1] + [0] * (many - 1) if many else [], [])])
                self.assertEqual(board.standing(), [0] if many >= depth else [], (depth, many))
                self.assertIs(board.stands(0), many >= depth)
            self.assertEqual(Board(book, rows=[([], [1, 0])]).standing(), [0])
            self.assertEqual(Board(book, rows=[([1], [0])]).standing(), [0])
            self.assertEqual(Board(book, rows=[([0], [1])]).standing(), [])
            self.assertEqual(Board(book, rows=[([], [0, 1])]).standing(), [])

    def test_each_pad_counts(self):
        book = Book([2, 2, 2], figures=[((0, 1, 1), (1, 0, 2), (2, 1, 3))])
        good = [([1], []), ([0, 1], []), ([1, 0, 0], [])]
        self.assertEqual(Board(book, rows=good).standing(), [0])
        for pad in range(3):
            for bad in ([], [1 - good[pad][0][0]] * 5, good[pad][0][:-1]):
                rows = list(good)
                rows[pad] = (bad, [])
                self.assertEqual(Board(book, rows=rows).standing(), [])

    def test_several_stand_at_once(self):
        book = Book([2, 2, 2], figures=[((2, 0, 1),), ((0, 0, 1), (1, 1, 1)), ((0, 1, 1),), ((1, 0, 1),)])
        self.assertEqual(Board(book, rows=[([0], []), ([1], []), ([0], [])]).standing(), [0, 1])
        self.assertEqual(Board(book, rows=[([1], []), ([0], []), ([0], [])]).standing(), [0, 2, 3])
        self.assertEqual(Board(book, rows=[([0], []), ([0], []), ([1], [])]).standing(), [3])

    def test_stands_refuses(self):
        board = board_of(([1, 0], []), ([0], []))
        self.assertIs(board.stands(0), True)
        self.assertIs(board.stands(figure=1), False)
        for figure in (-1, 2, HUGE, -HUGE):
            self.refuses(NoFigure, {"figure": figure}, board.stands, figure)
        self.refuses(NoFigure, {"figure": 0}, Board(BARE).stands, 0)

    def test_a_new_list(self):
        board = board_of(([1, 0], []), ([0], []))
        board.standing().clear()
        self.assertEqual(board.standing(), [0])

    def test_many_boards(self):
        chance = seeded(22)
        for _ in range(300):
            book = chance_book(chance, pads=5, colours=2, figures=8)
            rows = chance_rows(chance, book, lead=4)
            board = Board(book, rows=rows)
            told = board.standing()
            self.assertEqual(told, standing(book.figures(), rows))
            self.assertEqual([board.stands(figure) for figure in range(len(book))],
                             [figure in told for figure in range(len(book))])


if __name__ == "__main__":
    unittest.main()
