"""Steps of a board, taken back and done again, and its twins (point [9])."""

import unittest

from refusing import Refusing
from tearboard.board import Board
from tearboard.books import Book
from tearboard.errors import BadDeed, BadNote, Full, NeverClear, NoPad, NotStanding, NothingAgain, NothingBack

BOOK = Book([2, 3], figures=[((0, 1, 2), (1, 0, 1)), ((1, 2, 1),)])
DEEDS = [
    ("put", 0, 1), ("write", 1, [0, 2, 2]), ("write", 0, [1, 1]), ("sweep",), ("change", 1, 0, 1), ("change", 1, 0, 2),
    ("tear", 1), ("lay", 0, [[1], []]), ("settle",), ("reset", 1, [], [2, 0]), ("sweep",), ("put", 1, 2), ("sweep",),
]


class Several(Refusing):
    def test_several_deeds_are_one_step(self):
        board, single = Board(BOOK), Board(BOOK)
        self.assertIsNone(board.all_of(DEEDS))
        for deed in DEEDS:
            single.do(deed)
        self.assertEqual(board.rows(), single.rows())
        self.assertEqual((board.steps(), single.steps()), ((1, 0), (len(DEEDS), 0)))
        board.undo()
        self.assertEqual((board.rows(), board.steps()), (Board(BOOK).rows(), (0, 1)))
        board.redo()
        self.assertEqual((board.rows(), board.steps()), (single.rows(), (1, 0)))

    def test_a_deed_sees_what_the_ones_ahead_did(self):
        board = Board(BOOK)
        board.all_of([("put", 1, 2), ("tear", 1), ("put", 1, 0), ("change", 1, 0, 2)])
        self.assertEqual(board.rows(), [((), ()), ((2,), ())])

    def test_what_is_refused_amid_changes_nothing(self):
        board = Board(BOOK, rows=[([1, 0], []), ([0], [])])
        board.put(1, 1)
        board.undo()
        rows = board.rows()
        cases = [
            (NoPad, {"pad": 2}, ("put", 2, 0)), (BadNote, {"note": 3}, ("put", 1, 3)), (BadDeed, {}, ("puts", 0, 0)),
            (NotStanding, {"figure": 0}, ("tear", 0)), (Full, {"pad": 0}, ("write", 0, [0] * 400)), (BadDeed, {}, ()),
        ]
        for kind, values, bad in cases:
            for deeds in ([("put", 0, 0), bad], [("sweep",), ("put", 0, 0), bad, ("put", 0, 0)]):
                self.refuses(kind, values, board.all_of, deeds)
                self.assertEqual((board.rows(), board.steps()), (rows, (0, 1)))
        board.redo()
        self.assertEqual(board.rows(), [((1, 0), ()), ((1, 0), ())])

    def test_a_settle_that_never_ends_amid(self):
        rings = Board(Book([1], figures=[((0, 0, 1),)]))
        self.refuses(NeverClear, {"pad": 0}, rings.all_of, [("put", 0, 0), ("reset", 0, [], [0]), ("settle",)])
        self.assertEqual((rings.rows(), rings.steps()), ([((), ())], (0, 0)))

    def test_a_step_of_no_deeds(self):
        board = Board(BOOK, rows=[([1, 0], []), ([0], [])])
        rows = board.rows()
        for none in ([], ()):
            self.assertIsNone(board.all_of(none))
        self.assertEqual((board.rows(), board.steps()), (rows, (2, 0)))
        board.undo()
        self.assertEqual((board.rows(), board.steps()), (rows, (1, 1)))
        board.redo()
        self.assertEqual((board.rows(), board.steps()), (rows, (2, 0)))
        board.undo()
        # It is another step, too: what was taken back cannot be done again behind it.
        board.all_of([])
        self.assertEqual(board.steps(), (2, 0))
        self.refuses(NothingAgain, {}, board.redo)

    def test_deeds_handed_in_stay(self):
        deeds = [("write", 0, [1, 0]), ("lay", 0, [[1], []])]
        board = Board(BOOK)
        board.all_of(deeds)
        self.assertEqual(deeds, [("write", 0, [1, 0]), ("lay", 0, [[1], []])])
        deeds[0][2].append(1)
        deeds.clear()
        self.assertEqual(board.rows()[0], ((1, 1, 1, 0), ()))
        board.undo()
        board.redo()
        self.assertEqual(board.rows()[0], ((1, 1, 1, 0), ()))


class BackAndAgain(Refusing):
    def test_to_both_ends(self):
        board = Board(BOOK)
        rows = [board.rows()]
        for deed in DEEDS:
            self.assertEqual(board.steps(), (len(rows) - 1, 0))
            board.do(deed)
            rows.append(board.rows())
        for times in range(2):
            for at in range(len(DEEDS) - 1, -1, -1):
                self.assertIsNone(board.undo())
                self.assertEqual((board.rows(), board.steps()), (rows[at], (at, len(DEEDS) - at)))
            self.refuses(NothingBack, {}, board.undo)
            self.assertEqual((board.rows(), board.steps()), (rows[0], (0, len(DEEDS))))
            for at in range(1, len(DEEDS) + 1):
                self.assertIsNone(board.redo())
                self.assertEqual((board.rows(), board.steps()), (rows[at], (at, len(DEEDS) - at)))
            self.refuses(NothingAgain, {}, board.redo)
            self.assertEqual((board.rows(), board.steps()), (rows[-1], (len(DEEDS), 0)))

    def test_nothing_at_first(self):
        board = Board(BOOK)
        self.refuses(NothingBack, {}, board.undo)
        self.refuses(NothingAgain, {}, board.redo)
        self.assertEqual(board.steps(), (0, 0))
        self.assertIs(type(board.steps()), tuple)

    def test_another_step_ends_what_can_be_done_again(self):
        other_steps = (
            lambda board: board.put(0, 1), lambda board: board.sweep(), lambda board: board.settle(),
            lambda board: board.do(("write", 0, [])), lambda board: board.all_of([]),
        )
        for step in other_steps:
            board = Board(BOOK)
            for note in (0, 1, 0):
                board.put(0, note)
            board.undo()
            board.undo()
            step(board)
            self.assertEqual(board.steps(), (2, 0))
            self.refuses(NothingAgain, {}, board.redo)
            board.undo()
            self.assertEqual((board.rows()[0], board.steps()), (((0,), ()), (1, 1)))

    def test_asking_and_refusals_leave_what_can_be_done_again(self):
        board = Board(BOOK)
        board.put(0, 1)
        board.undo()
        board.heap()
        board.torn()
        board.left()
        board.story(0)
        board.torn_by(5)
        self.refuses(NoPad, {"pad": 5}, board.put, 5, 0)
        board.redo()
        self.assertEqual((board.rows()[0], board.steps()), (((1,), ()), (1, 0)))

    def test_settle_and_sweep_are_one_step_each(self):
        board = Board(BOOK, rows=[([1, 0, 1, 0], []), ([0, 2, 0], [])])
        rows = board.rows()
        self.assertEqual(board.settle(), [[0], [1], [0]])
        self.assertEqual(board.steps(), (1, 0))
        board.undo()
        self.assertEqual(board.rows(), rows)
        self.assertEqual(board.sweep(), [0])
        self.assertEqual(board.steps(), (1, 0))

    def test_many_steps(self):
        board = Board(BOOK)
        for at in range(400):
            board.put(0, at % 2)
        for at in range(400):
            board.put(1, at % 3)
        self.refuses(Full, {"pad": 0}, board.put, 0, 0)
        self.assertEqual(board.steps(), (800, 0))
        for _ in range(500):
            board.undo()
        self.assertEqual((board.height(0), board.height(1), board.steps()), (300, 0, (300, 500)))


class Twins(Refusing):
    def test_a_twin_has_all_that_the_board_has(self):
        board = Board(BOOK, rows=[([1, 0, 1], []), ([0, 2], [])])
        for note in (0, 1):
            board.put(0, note)
        board.undo()
        board.undo()
        board.write(1, [2])
        board.put(1, 1)
        board.undo()
        board.heap()
        twin = board.twin()
        self.assertEqual(twin, board)
        for ask in (lambda one: one.book(), lambda one: one.rows(), lambda one: one.steps(), lambda one: one.kept(),
                    lambda one: one.found(), lambda one: one.heap(most=0), lambda one: one.torn(), str, repr):
            self.assertEqual(ask(twin), ask(board))
        self.assertEqual((twin.steps(), twin.kept(), twin.found()), ((1, 1), 3, 3))

    def pairs(self):
        """A board and its twin, and a twin and its board, with two steps to take back and one to do again."""
        told = []
        for _ in range(2):
            board = Board(BOOK)
            for note in (0, 1, 1):
                board.put(0, note)
            board.undo()
            told.append((board, board.twin()))
        return [told[0], told[1][::-1]]

    def test_neither_changes_the_other(self):
        for one, two in self.pairs():
            one.put(0, 0)
            one.put(1, 2)
            one.heap()
            self.assertEqual((two.rows(), two.steps(), two.kept(), two.found()),
                             ([((1, 0), ()), ((), ())], (2, 1), 0, 0))
            two.redo()
            self.assertEqual(two.rows()[0], ((1, 1, 0), ()))
            for _ in range(3):
                two.undo()
            self.refuses(NothingBack, {}, two.undo)
            self.assertEqual((one.rows(), one.steps(), one.kept(), one.found()),
                             ([((0, 1, 0), ()), ((2,), ())], (4, 0), 1, 1))
            for _ in range(4):
                one.undo()
            self.refuses(NothingBack, {}, one.undo)
            self.assertEqual((one.steps(), two.steps()), ((0, 4), (0, 3)))

    def test_steps_back_and_again_of_one_are_not_the_other_ones(self):
        for one, two in self.pairs():
            one.undo()
            self.assertEqual((one.steps(), two.steps()), ((1, 2), (2, 1)))
            two.redo()
            self.assertEqual((one.steps(), two.steps()), ((1, 2), (3, 0)))
            for _ in range(2):
                one.redo()
            self.assertEqual((one.rows(), one.steps()), (two.rows(), (3, 0)))
            self.assertEqual(two.rows()[0], ((1, 1, 0), ()))

    def test_a_twin_of_a_twin(self):
        board = Board(BOOK)
        board.put(0, 1)
        twin = board.twin().twin()
        twin.undo()
        self.assertEqual((board.rows()[0], twin.rows()[0]), (((1,), ()), ((), ())))


if __name__ == "__main__":
    unittest.main()
