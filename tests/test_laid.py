"""Pairs laid again on the rows that are left (point [8], the interface's laid)."""

import unittest

from model import chance_book, chance_rows, seeded
from refusing import Refusing
from tearboard.board import Board, laid
from tearboard.books import Book
from tearboard.errors import BadBeneath, BadRow, Full, NoFigure

HUGE = 10 ** 30 - 1
BOOK = Book([2, 3], figures=[((0, 1, 2), (1, 0, 1)), ((1, 2, 3),)])
NO_ROWS = [([], []), ([], [])]
GOOD = (0, ((1, 0), (0,)))


def chance_notes(chance, book, figure):
    """Notes as a figure takes them, any ones beneath the wanted ones."""
    return tuple(
        (note, *[chance.randrange(book.colours()[pad]) for _ in range(depth - 1)])
        for pad, note, depth in book.shape(figure)
    )


class Laid(Refusing):
    def test_rows(self):
        board = laid(BOOK, [(0, ((1, 0), (0,))), (1, ((2, 1, 0),))], rows=[([0], []), ([1], [0])])
        self.assertEqual(board.rows(), [((1, 0, 0), ()), ((0, 2, 1, 0, 1), (0,))])
        self.assertEqual(laid(BOOK, [], rows=NO_ROWS), Board(BOOK))
        self.assertEqual(laid(rows=NO_ROWS, pairs=(GOOD,), book=BOOK).rows(), [((1, 0), ()), ((0,), ())])

    def test_rows_are_told_least(self):
        self.assertEqual(laid(BOOK, [GOOD], rows=[([], [1, 0]), ([], [0, 0])]).rows(), [((), (1, 0)), ((), (0,))])

    def test_nothing_to_take_back_nothing_kept_or_found(self):
        board = laid(BOOK, [GOOD, GOOD], rows=NO_ROWS)
        self.assertEqual((board.steps(), board.kept(), board.found()), ((0, 0), 0, 0))
        self.assertEqual(len(board.heap()), 2)
        self.assertEqual((board.kept(), board.found()), (2, 2))

    def test_lists_stand_for_tuples_and_stay(self):
        pairs = [[0, [[1, 0], [0]]]]
        rows = [[[0], []], [[], []]]
        board = laid(BOOK, pairs, rows=rows)
        self.assertEqual((pairs, rows), ([[0, [[1, 0], [0]]]], [[[0], []], [[], []]]))
        pairs[0][1][0].clear()
        rows[0][0].clear()
        self.assertEqual(board.rows(), [((1, 0, 0), ()), ((0,), ())])

    def test_torn_laid_on_left_makes_the_rows_again(self):
        chance = seeded(41)
        told = 0
        for _ in range(300):
            book = chance_book(chance, pads=5, colours=3, figures=10)
            board = Board(book, rows=chance_rows(chance, book, lead=12, turn=2, rounds=0.1))
            if all(board.story(pad)[0] == "ends" for pad in range(book.pads())):
                pairs = board.torn()
                told += len(pairs)
                self.assertEqual(laid(book, pairs, rows=board.left()), board)
        self.assertGreater(told, 300)

    def test_any_pairs_laid_on_a_clear_board_are_torn_again(self):
        chance = seeded(42)
        for _ in range(200):
            book = chance_book(chance, pads=4, colours=3, figures=8)
            clear = Board(book, rows=chance_rows(chance, book, lead=6, turn=1, rounds=0))
            clear.settle()
            row = [chance.randrange(len(book)) for _ in range(chance.randint(0, 8) if len(book) else 0)]
            pairs = [(figure, chance_notes(chance, book, figure)) for figure in row]
            board = laid(book, pairs, rows=clear.rows())
            self.assertEqual(board.heap(), type(board.heap())(book, row))
            self.assertEqual(board.left(), clear.rows())
            for figure in range(len(book)):
                self.assertEqual([pair for pair in board.torn() if pair[0] == figure],
                                 [pair for pair in pairs if pair[0] == figure])
            by_hand = Board(book, rows=clear.rows())
            for figure, notes in reversed(pairs):
                by_hand.lay(figure, beneath=[some[1:] for some in notes])
            self.assertEqual(by_hand, board)

    def test_full_boards(self):
        board = Board(BOOK, rows=[([1, 0] * 200, []), ([0, 2, 1, 1] * 100, [])])
        self.assertEqual(laid(BOOK, board.torn(), rows=board.left()), board)


class Refusals(Refusing):
    def test_the_rows_own_ones_go_ahead(self):
        bad = [(7, ())]
        self.refuses(BadRow, {"at": -1}, laid, BOOK, bad, rows=[([], [])])
        self.refuses(BadRow, {"at": -1}, laid, BOOK, bad, rows=[])
        self.refuses(BadRow, {"at": 1}, laid, BOOK, bad, rows=[([], []), ([3], [])])
        self.refuses(BadRow, {"at": 0}, laid, BOOK, bad, rows=[([0] * 401, []), ([3], [])])
        self.refuses(BadRow, {"at": 0}, laid, BOOK, bad, rows=[([], [0] * 13), ([], [])])

    def test_no_figure(self):
        for figure in (-1, 2, 12, HUGE, -HUGE):
            self.refuses(NoFigure, {"figure": figure}, laid, BOOK, [(figure, ())], rows=NO_ROWS)
            self.refuses(NoFigure, {"figure": figure}, laid, BOOK, [GOOD, (figure, ((9,),)), GOOD], rows=NO_ROWS)

    def test_bad_beneath(self):
        bad = [
            (), ((1, 0),), ((1, 0), (0,), ()), ((1, 0), ()), ((1,), (0,)), ((1, 0, 0), (0,)), ((1, 0), (0, 0)),
            ((0, 0), (0,)), ((1, 0), (1,)), ((1, 2), (0,)), ((1, -1), (0,)), ((1, HUGE), (0,)), ((-1, 0), (0,)),
            ((1, 0), (HUGE,)), ((0,), (1, 0)), ((), ()),
        ]
        for notes in bad:
            self.refuses(BadBeneath, {}, laid, BOOK, [(0, notes)], rows=NO_ROWS)
            self.refuses(BadBeneath, {}, laid, BOOK, [(0, notes)], rows=[([1] * 400, []), ([0] * 400, [])])
        self.refuses(BadBeneath, {}, laid, BOOK, [(1, ((2, 0, 3),))], rows=NO_ROWS)
        self.assertEqual(laid(BOOK, [(1, ((2, 0, 2),))], rows=NO_ROWS).rows()[1], ((2, 0, 2), ()))

    def test_full(self):
        self.assertEqual(laid(BOOK, [GOOD], rows=[([1] * 398, []), ([0] * 399, [])]).height(0), 400)
        self.refuses(Full, {"pad": 0}, laid, BOOK, [GOOD], rows=[([1] * 399, []), ([0] * 400, [])])
        self.refuses(Full, {"pad": 1}, laid, BOOK, [GOOD], rows=[([1] * 398, []), ([0] * 400, [])])
        self.refuses(Full, {"pad": 0}, laid, BOOK, [GOOD] * 201, rows=NO_ROWS)
        self.assertEqual(laid(BOOK, [GOOD] * 200, rows=NO_ROWS).height(0), 400)
        # The round swallows all that is laid.
        rows = [([], [1, 0]), ([], [0])]
        self.assertEqual(laid(BOOK, [GOOD] * 500, rows=rows), Board(BOOK, rows=rows))

    def test_each_pair_in_its_turn_from_the_last_one_back(self):
        bad = {NoFigure: (5, ()), BadBeneath: (0, ()), Full: GOOD}
        values = {NoFigure: {"figure": 5}, BadBeneath: {}, Full: {"pad": 0}}
        rows = [([1] * 400, []), ([], [])]
        for first in bad:
            for last in bad:
                self.refuses(last, values[last], laid, BOOK, [bad[first], bad[last]], rows=rows)
        self.refuses(NoFigure, {"figure": -1}, laid, BOOK, [(5, ()), (-1, ()), GOOD], rows=NO_ROWS)


if __name__ == "__main__":
    unittest.main()
