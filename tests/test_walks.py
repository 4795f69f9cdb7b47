"""Walks that go far, and walks asked again with other bounds (points [5], [9], [10] and [11])."""

import unittest

from model import Model, chance_book, chance_rows, odometer, seeded, told_of
from refusing import Refusing
from tearboard.board import Board
from tearboard.books import Book
from tearboard.desk import Desk
from tearboard.errors import TooFar

# Figure 0 wants all five pads at once, each other one a pad alone.
FIVE = Book([2] * 5, figures=[tuple((pad, 0, 1) for pad in range(5))] + [((pad, 1, 1),) for pad in range(5)])


def five_rounds(*sizes):
    """A board of five rounds of twelve notes, of which so many want figure 0."""
    return Board(FIVE, rows=[([], [0] * many + [1] * (12 - many)) for many in sizes])


def asking(board):
    """Every way to ask that has a bound, with nothing told as the bound."""
    desk = Desk(board)
    calls = [board.settle, board.heap, board.torn, board.left]
    calls += [lambda: board.do(("settle",)), lambda: board.all_of([("put", 0, 0), ("settle",)])]
    calls += [lambda pad=pad: board.story(pad) for pad in range(len(board))]
    calls += [lambda many=many: board.torn_by(many) for many in (0, 1, 10 ** 15)]
    lines = ["settle", "heap", "left"] + [f"story {pad}" for pad in range(len(board))]
    return calls, [lambda line=line: desk.say(line) for line in lines]


class Far(Refusing):
    def test_five_pads_with_rounds_of_twelve_notes(self):
        # Figure 0 comes to the beginning of all rounds again behind 27720 times.
        for many in range(len(asking(five_rounds(1, 1, 1, 1, 1))[0])):
            board = five_rounds(11, 9, 7, 5, 8)
            self.refuses(TooFar, {"most": 20000}, asking(board)[0][many])
        for many in range(len(asking(five_rounds(1, 1, 1, 1, 1))[1])):
            board = five_rounds(11, 9, 7, 5, 8)
            self.assertEqual(asking(board)[1][many](), "no TooFar")

    def test_asked_again_of_one_board(self):
        board = five_rounds(11, 9, 7, 5, 8)
        twin = board.twin()
        for _ in range(2):
            for call in asking(board)[0]:
                self.refuses(TooFar, {"most": 20000}, call)
            for call in asking(board)[1]:
                self.assertEqual(call(), "no TooFar")
        self.assertEqual(board, twin)
        self.assertEqual((board.steps(), board.kept(), board.found()), ((0, 0), 0, 0))

    def test_how_far_it_is(self):
        board = five_rounds(11, 9, 7, 5, 8)
        figure = 11 * 9 * 7 * 5 * 8
        others = sum((12 - many) * (figure // many) for many in (11, 9, 7, 5, 8))
        self.refuses(TooFar, {"most": figure + others - 1}, board.story, 0, most=figure + others - 1)
        word, first, later = board.story(0, most=figure + others)
        self.assertEqual((word, first), ("again", 0))
        whole = [figure] + [(12 - many) * (figure // many) for many in (11, 9, 7, 5, 8)]
        self.assertEqual(board.torn_by(later, most=figure + others), whole)
        self.assertEqual(board.torn_by(2 * later, most=figure + others), [2 * many for many in whole])
        self.refuses(TooFar, {"most": 20000}, board.story, 0)

    def test_such_a_board_that_is_not_so_far(self):
        for sizes in ((3, 3, 3, 3, 3), (1, 2, 3, 4, 6), (12, 12, 12, 12, 12), (6, 4, 10, 5, 3)):
            board = five_rounds(*sizes)
            model = Model(FIVE.colours(), FIVE.figures(), board.rows())
            self.assertEqual(board.story(3), model.story(3))
            self.assertEqual(board.torn_by(100), model.torn_by(100))
            self.assertEqual(told_of(board.heap), ("NeverClear", 0))

    def test_a_round_without_a_taker_ends_it(self):
        book = Book([2] * 5, figures=FIVE.figures()[:5])
        board = Board(book, rows=[([], [0] * many + [1] * (12 - many)) for many in (11, 9, 7, 5, 8)])
        model = Model(book.colours(), book.figures(), board.rows())
        self.assertEqual(board.story(4), model.story(4))
        layers, pairs, left = model.ask()
        self.assertEqual((board.heap().layers(), board.torn(), board.left()), (layers, pairs, left))
        self.assertEqual(board.settle(), layers)


class Bounds(Refusing):
    def test_bounds_in_any_order(self):
        chance = seeded(91)
        for _ in range(150):
            book = chance_book(chance, pads=4, colours=2, figures=8)
            rows = chance_rows(chance, book, lead=5, turn=4, rounds=chance.choice((0, 0.5, 0.8)))
            board, model = Board(book, rows=rows), Model(book.colours(), book.figures(), rows)
            for _ in range(12):
                most, pad = chance.choice((-1, 0, 1, 2, 3, 5, 8, 13, 30, 20000)), chance.randrange(book.pads())
                self.assertEqual(told_of(board.story, pad, most=most), told_of(model.story, pad, most))
                self.assertEqual(told_of(board.torn_by, 7, most=most), told_of(model.torn_by, 7, most))
                wanted = told_of(model.check_ends, most, model.rows)
                told = told_of(board.twin().settle, most=most)
                if wanted[0] == "told":
                    self.assertEqual(told[0], "told")
                else:
                    self.assertEqual(told, wanted)

    def test_a_greater_bound_finds_what_a_lesser_one_did_not(self):
        board = odometer([10, 10, 10, 10, 2])
        self.refuses(TooFar, {"most": 19999}, board.story, 0, most=19999)
        self.assertEqual(board.story(0), ("again", 0, 20000))
        self.refuses(TooFar, {"most": 19999}, board.story, 0, most=19999)
        self.refuses(TooFar, {"most": 0}, board.heap, most=0)
        self.assertEqual(told_of(board.heap), ("NeverClear", 0))

    def test_a_deed_makes_another_walk(self):
        board = Board(Book([2], figures=[((0, 0, 1),), ((0, 1, 1),)]), rows=[([], [0, 1])])
        self.assertEqual(board.story(0), ("again", 0, 2))
        board.put(0, 0)
        self.assertEqual(board.story(0), ("again", 1, 3))
        board.reset(0, [1, 1])
        self.assertEqual(board.story(0), ("ends", 2))
        board.undo()
        self.assertEqual(board.story(0), ("again", 1, 3))
        board.undo()
        self.assertEqual((board.story(0), board.twin().story(0)), (("again", 0, 2), ("again", 0, 2)))
        board.redo()
        self.assertEqual(board.story(0), ("again", 1, 3))
        twin = board.twin()
        twin.reset(0, [0])
        self.assertEqual((board.story(0), twin.story(0)), (("again", 1, 3), ("ends", 1)))

    def test_lists_of_sweeps_are_new_each_time(self):
        book = Book([1, 1], figures=[((0, 0, 1),), ((1, 0, 1),)])
        board = Board(book, rows=[([0] * 3, []), ([0] * 2, [])])
        told = board.settle()
        self.assertEqual(told, [[0, 1], [0, 1], [0]])
        told[0].append(9)
        self.assertEqual(told, [[0, 1, 9], [0, 1], [0]])
        board.undo()
        self.assertEqual(board.settle(), [[0, 1], [0, 1], [0]])

    def test_depths_at_the_end_of_a_row(self):
        for depth in (1, 2, 3):
            book = Book([2, 2], figures=[((0, 0, depth), (1, 0, 1)), ((0, 1, 3), (1, 1, 2))])
            for many in range(6):
                for turn in ([], [0], [1, 0]):
                    for lead in ([0] * many, [0, 1] * many, [1] * many):
                        rows = [(lead, turn), ([0, 1, 1, 0, 0, 1, 0], [])]
                        board, model = Board(book, rows=rows), Model(book.colours(), book.figures(), rows)
                        self.assertEqual(board.story(1), model.story(1))


if __name__ == "__main__":
    unittest.main()
