"""What is torn till a board is clear, and what of it is kept, found and counted (points [6], [8] and [11])."""

import unittest

from refusing import Refusing
from tearboard.board import Board
from tearboard.books import Book
from tearboard.errors import BadDeed, BadNote, BadNumber, NeverClear, NoNote, NoPad, NotStanding, NothingAgain
from tearboard.errors import NothingBack, TooFar
from tearboard.heaps import Heap

BOOK = Book([2, 3], figures=[((0, 1, 2), (1, 0, 1)), ((1, 2, 1),)])
# The figures 0 and 1 lie on pad 0, 1 and 2 on pad 1, 3 alone on pad 2: parts [0, 1] and [2].
CHAIN = Book([2, 2, 1], figures=[((0, 0, 1),), ((0, 1, 1), (1, 0, 2)), ((1, 1, 1),), ((2, 0, 1),)])
CHAIN_ROWS = [([0, 1, 0, 0], []), ([1, 0, 1, 1, 1], []), ([0, 0, 0], [])]
# Torn off these rows: 0 2 3; 1 3; 0 2 3; 0 2.
CHAIN_LAYERS = [[0, 2, 3], [1, 3], [0, 2, 3], [0, 2]]


def chain_board():
    return Board(CHAIN, rows=CHAIN_ROWS)


def numbers(board):
    return board.kept(), board.found()


def asked(board):
    board.heap()
    return board


class Telling(Refusing):
    def test_heap_torn_left(self):
        board = chain_board()
        heap = board.heap()
        self.assertEqual((heap.book(), heap.layers()), (CHAIN, CHAIN_LAYERS))
        self.assertEqual(heap, Heap(CHAIN, [3, 3, 3, 2, 0, 1, 2, 2, 0, 0]))
        pairs = [
            (0, ((0,),)), (2, ((1,),)), (3, ((0,),)), (1, ((1,), (0, 1))), (3, ((0,),)), (0, ((0,),)), (2, ((1,),)),
            (3, ((0,),)), (0, ((0,),)), (2, ((1,),)),
        ]
        self.assertEqual(board.torn(), pairs)
        self.assertEqual(board.left(), [((), ()), ((), ()), ((), ())])

    def test_notes_of_depths_and_rounds(self):
        book = Book([3, 2], figures=[((0, 2, 3), (1, 0, 2)), ((1, 1, 2),)])
        board = Board(book, rows=[([2, 0, 1, 2], [1]), ([], [0, 1, 1])])
        between = [(1, ((1, 0),)), (1, ((1, 1),))]
        self.assertEqual(board.torn(), [(0, ((2, 0, 1), (0, 1))), *between, (0, ((2, 1, 1), (0, 1))), *between])
        self.assertEqual(board.left(), [((), (1,)), ((), (0, 1, 1))])

    def test_a_clear_board(self):
        for board in (Board(BOOK), Board(BOOK, rows=[([1], []), ([0, 2], [1])])):
            self.assertEqual((board.heap(), board.torn(), board.left()), (Heap(BOOK), [], board.rows()))
            self.assertEqual(numbers(board), (0, 0))

    def test_lists_told_are_new(self):
        board = chain_board()
        for ask in (board.torn, board.left, lambda: board.heap().layers()):
            told, wanted = ask(), ask()
            told.clear()
            self.assertEqual(ask(), wanted)
        for figure, notes in board.torn():
            self.assertEqual({type(notes)} | {type(some) for some in notes}, {tuple})
        for row in board.left():
            self.assertEqual([type(part) for part in (row, *row)], [tuple] * 3)

    def test_asking_changes_no_rows_and_no_steps(self):
        board = chain_board()
        board.put(2, 0)
        board.undo()
        for ask in (board.heap, board.torn, board.left):
            self.assertEqual(ask(), ask())
        self.assertEqual((board.rows(), board.steps()), (chain_board().rows(), (0, 1)))

    def test_a_heap_told_stays_what_it_was(self):
        board = chain_board()
        heap = board.heap()
        board.settle()
        self.assertEqual(heap.layers(), CHAIN_LAYERS)
        self.assertEqual(board.heap().layers(), [])


class Counting(Refusing):
    def test_nothing_at_first(self):
        self.assertEqual(numbers(chain_board()), (0, 0))

    def test_once_asked_for_all_of_it_is_kept(self):
        for word in ("heap", "torn", "left"):
            board = chain_board()
            for other in (word, "heap", "torn", "left", word):
                getattr(board, other)()
                self.assertEqual(numbers(board), (10, 10))

    def test_what_is_refused_keeps_nothing_more(self):
        board = Board(CHAIN, rows=[([0, 0], []), ([1], []), ([], [0])])
        for word in ("heap", "torn", "left"):
            self.refuses(NeverClear, {"pad": 2}, getattr(board, word))
            self.refuses(TooFar, {"most": 2}, getattr(board, word), most=2)
            self.assertEqual(numbers(board), (0, 0))

    def test_what_asks_for_nothing_of_it(self):
        board = chain_board()
        board.story(0)
        board.torn_by(5)
        board.standing()
        self.assertEqual((str(board), repr(board)), (str(chain_board()), "Board(3 pads, 3 standing)"))
        self.assertEqual(numbers(board), (0, 0))
        self.refuses(BadNumber, {"number": -1}, board.torn_by, -1)
        asked(board)
        board.story(1)
        board.torn_by(10 ** 15)
        board.rows()
        self.assertEqual(numbers(board), (10, 10))

    def test_sweeping_and_settling_keep_and_count_nothing(self):
        for word in ("sweep", "settle"):
            board = chain_board()
            getattr(board, word)()
            self.assertEqual(numbers(board), (0, 0))
            board = asked(chain_board())
            getattr(board, word)()
            self.assertEqual(numbers(board), (0, 10))
            rest = len(board.heap())
            self.assertEqual(numbers(board), (rest, 10 + rest))

    def test_a_board_settled_or_swept_clear_is_still_to_be_asked(self):
        for deed in ("settle", "sweep"):
            board = Board(CHAIN, rows=[([0], []), ([], []), ([], [])])
            getattr(asked(board), deed)()
            self.assertEqual(board.standing(), [])
            for word in ("heap", "torn", "left"):
                self.refuses(TooFar, {"most": -1}, getattr(board, word), most=-1)
            self.assertEqual((board.torn(most=0), board.torn(most=-1)), ([], []))

    def test_settle_is_bounded_whatever_is_kept(self):
        board = asked(chain_board())
        self.refuses(TooFar, {"most": 6}, board.settle, most=6)
        self.refuses(TooFar, {"most": 6}, board.story, 0, most=6)
        self.refuses(TooFar, {"most": 6}, board.torn_by, 1, most=6)
        self.assertEqual(numbers(board), (10, 10))


class BehindDeeds(Refusing):
    def test_a_write_keeps_all(self):
        board = asked(chain_board())
        board.write(0, [0])
        self.assertEqual(numbers(board), (10, 10))
        self.assertEqual(board.heap().layers(), CHAIN_LAYERS + [[0]])
        self.assertEqual(numbers(board), (11, 11))
        board.write(2, [])
        self.assertEqual(numbers(asked(board)), (11, 11))

    def test_a_write_before_anything_was_asked(self):
        board = chain_board()
        board.write(0, [0])
        self.assertEqual(numbers(board), (0, 0))
        self.assertEqual(numbers(asked(board)), (11, 11))

    def test_a_change_of_what_none_took(self):
        board = Board(CHAIN, rows=[([0, 1, 0], []), ([1, 1, 1], []), ([0], [])])
        self.assertEqual(asked(board).heap().layers(), [[0, 2, 3], [2], [2]])
        board.change(0, 1, 0)
        self.assertEqual(numbers(board), (5, 5))
        self.assertEqual(board.heap().layers(), [[0, 2, 3], [0, 2], [0, 2]])
        self.assertEqual(numbers(board), (7, 7))

    def test_a_change_drops_the_one_that_took_it_and_those_that_wait(self):
        cases = [
            # pad, depth, note, and how many are kept behind it
            (0, 0, 1, 10 - 6),  # the first 0: 1, and behind it all others on the pads 0 and 1 but the first 2
            (0, 1, 0, 10 - 5),  # figure 1, the 0s and the 2s behind it
            (1, 1, 1, 10 - 5),  # figure 1 takes two notes from pad 1: this one
            (1, 2, 0, 10 - 5),  # and this one, which it does not want to be anything
            (1, 0, 0, 10 - 6),  # the first 2, then 1 and what waits for it
            (0, 2, 1, 8), (0, 3, 1, 9), (1, 3, 0, 8), (1, 4, 0, 9),
            (2, 0, 0, 7), (2, 1, 0, 8), (2, 2, 0, 9),
        ]
        for pad, depth, note, kept in cases:
            board = asked(chain_board())
            board.change(pad, depth, note)
            self.assertEqual(numbers(board), (kept, 10), (pad, depth))
            total = len(board.heap())
            self.assertEqual(numbers(board), (total, 10 + total - kept))
            fresh = Board(CHAIN, rows=board.rows())
            self.assertEqual((board.heap(), board.torn(), board.left()), (fresh.heap(), fresh.torn(), fresh.left()))

    def test_a_change_to_the_same_note(self):
        board = asked(chain_board())
        board.change(0, 1, 1)
        self.assertEqual(numbers(board), (5, 10))
        self.assertEqual(board.heap().layers(), CHAIN_LAYERS)
        self.assertEqual(numbers(board), (10, 15))

    def test_changes_one_behind_the_other(self):
        board = asked(chain_board())
        board.change(2, 1, 0)
        board.change(0, 3, 0)
        self.assertEqual(numbers(board), (7, 10))
        board.change(2, 2, 0)
        self.assertEqual(numbers(board), (7, 10))
        board.write(0, [1])
        board.change(0, 4, 0)
        self.assertEqual(numbers(board), (7, 10))
        self.assertEqual(numbers(asked(board)), (11, 14))

    def test_any_other_deed_keeps_nothing(self):
        deeds = [("put", 2, 0), ("reset", 2, [0, 0, 0], []), ("lay", 3, [[]]), ("tear", 3), ("sweep",), ("settle",)]
        for deed in deeds:
            board = asked(chain_board())
            board.do(deed)
            self.assertEqual(numbers(board), (0, 10), deed)
            total = len(board.heap())
            self.assertEqual(numbers(board), (total, 10 + total), deed)

    def test_refused_deeds_keep_all(self):
        board = asked(chain_board())
        refusals = [
            (NoPad, lambda: board.put(3, 0)), (BadNote, lambda: board.put(0, 2)), (BadDeed, lambda: board.do(())),
            (NoNote, lambda: board.change(0, 4, 0)), (BadNote, lambda: board.change(0, 0, 2)),
            (NotStanding, lambda: board.tear(1)),
            (NothingBack, board.undo), (NothingAgain, board.redo), (TooFar, lambda: board.settle(most=1)),
            (NoPad, lambda: board.all_of([("put", 0, 0), ("put", 3, 0)])),
            (BadDeed, lambda: board.all_of([("change", 0, 0, 1), ("change",)])),
        ]
        for kind, call in refusals:
            with self.assertRaises(kind):
                call()
            self.assertEqual(numbers(board), (10, 10))
            # And what was asked for is still told, whatever the bound is.
            self.assertEqual(board.heap(most=-1).layers(), CHAIN_LAYERS)


class BehindSteps(Refusing):
    def test_deeds_of_one_step_one_by_one(self):
        cases = [
            ([("write", 0, [0]), ("write", 2, [0])], 10),
            ([("write", 0, [0]), ("change", 0, 4, 1)], 10),
            ([("change", 0, 3, 1), ("change", 2, 2, 0)], 8),
            ([("change", 0, 3, 1), ("put", 2, 0)], 0),
            ([("put", 2, 0), ("write", 0, [0])], 0),
            ([("write", 0, [0]), ("sweep",), ("change", 0, 0, 1)], 0),
        ]
        for deeds, kept in cases:
            board = asked(chain_board())
            board.all_of(deeds)
            self.assertEqual(numbers(board), (kept, 10), deeds)

    def test_a_step_of_no_deeds_keeps_all(self):
        board = asked(chain_board())
        board.all_of([])
        self.assertEqual(numbers(board), (10, 10))
        # No deed was done, so what was asked for is told whatever the bound is.
        self.assertEqual(board.heap(most=0).layers(), CHAIN_LAYERS)
        board.change(2, 2, 0)
        board.all_of(())
        self.assertEqual(numbers(board), (9, 10))
        self.refuses(TooFar, {"most": 6}, board.heap, most=6)

    def test_back_and_again_keep_nothing(self):
        for deeds in ([], [("write", 0, [0])], [("change", 0, 3, 0)], [("put", 0, 0)]):
            board = chain_board()
            board.all_of(deeds)
            found = len(board.heap())
            self.assertEqual(numbers(board), (found, found))
            board.undo()
            self.assertEqual(numbers(board), (0, found))
            found += len(board.heap())
            self.assertEqual(numbers(board), (10, found))
            board.redo()
            self.assertEqual(numbers(board), (0, found))
            found += len(board.heap())
            self.assertEqual(board.found(), found)

    def test_back_and_again_behind_no_deeds_ends_the_freedom_from_the_bound(self):
        board = chain_board()
        board.all_of([])
        asked(board).undo()
        self.refuses(TooFar, {"most": 6}, board.heap, most=6)
        asked(board).redo()
        self.refuses(TooFar, {"most": 6}, board.heap, most=6)
        self.assertEqual(numbers(board), (0, 20))


class Bounds(Refusing):
    def test_just_enough_and_one_below(self):
        for word in ("heap", "torn", "left"):
            board = chain_board()
            for most in (6, 5, 0, -1):
                self.refuses(TooFar, {"most": most}, getattr(board, word), most=most)
                self.assertEqual(numbers(board), (0, 0))
            getattr(board, word)(most=7)
            self.assertEqual(numbers(board), (10, 10))

    def test_asked_for_it_is_told_whatever_the_bound_is(self):
        for first in ("heap", "torn", "left"):
            board = chain_board()
            getattr(board, first)()
            for most in (20000, 6, 0, -1, -10 ** 29):
                self.assertEqual(board.heap(most=most).layers(), CHAIN_LAYERS)
                self.assertEqual(len(board.torn(most=most)), 10)
                self.assertEqual(board.left(most=most), [((), ()), ((), ()), ((), ())])
            self.assertEqual(numbers(board), (10, 10))

    def test_behind_a_deed_refusals_go_as_if_nothing_were_kept(self):
        for deed, kept in ((("write", 2, []), 10), (("change", 2, 2, 0), 9), (("change", 0, 0, 0), 4)):
            board = asked(chain_board())
            board.do(deed)
            for most in (6, 1, 0, -1):
                self.refuses(TooFar, {"most": most}, board.heap, most=most)
                self.assertEqual(numbers(board), (kept, 10))
            self.assertEqual(board.heap(most=7).layers(), CHAIN_LAYERS)
            self.assertEqual(numbers(board), (10, 20 - kept))

    def test_a_part_that_never_ends_now_and_what_is_kept(self):
        book = Book([3, 1], figures=[((0, 0, 1),), ((0, 1, 1),), ((1, 0, 1),)])
        board = Board(book, rows=[([0, 0, 0, 2], [0, 1]), ([0], [])])
        self.assertEqual(asked(board).heap().layers(), [[0, 2], [0], [0]])
        board.change(0, 3, 1)
        self.assertEqual(numbers(board), (4, 4))
        # The row is told with a lead of two notes: 0 0 (0 1).
        for most in (20000, 4):
            self.refuses(NeverClear, {"pad": 0}, board.heap, most=most)
        self.refuses(TooFar, {"most": 3}, board.heap, most=3)
        self.assertEqual(numbers(board), (4, 4))
        board.change(0, 3, 2)
        self.assertEqual(numbers(board), (4, 4))
        self.assertEqual(board.heap().layers(), [[0, 2], [0], [0]])
        self.assertEqual(numbers(board), (4, 4))

    def test_a_short_story_found_though_more_is_kept(self):
        # Four figures are kept; then the row is one round of one note, and its story is told within one figure.
        book = Book([3], figures=[((0, 0, 1),), ((0, 1, 1),)])
        board = Board(book, rows=[([0, 0, 0, 0, 2], [0])])
        self.assertEqual(numbers(asked(board)), (4, 4))
        board.change(0, 4, 0)
        self.assertEqual((board.rows(), numbers(board)), ([((), (0,))], (4, 4)))
        self.refuses(NeverClear, {"pad": 0}, board.heap, most=1)
        self.refuses(TooFar, {"most": 0}, board.heap, most=0)
        self.assertEqual(numbers(board), (4, 4))


class Twins(unittest.TestCase):
    def test_each_keeps_and_finds_for_itself(self):
        board = asked(chain_board())
        board.change(2, 2, 0)
        twin = board.twin()
        self.assertEqual((numbers(board), numbers(twin)), ((9, 10), (9, 10)))
        twin.heap()
        self.assertEqual((numbers(board), numbers(twin)), ((9, 10), (10, 11)))
        board.put(2, 0)
        self.assertEqual((numbers(board), numbers(twin)), ((0, 10), (10, 11)))
        self.assertEqual(len(twin.heap(most=0)), 10)
        board.heap()
        twin.undo()
        self.assertEqual((numbers(board), numbers(twin)), ((11, 21), (0, 11)))

    def test_a_twin_of_what_was_asked(self):
        board = asked(chain_board())
        self.assertEqual(board.twin().heap(most=0).layers(), CHAIN_LAYERS)


if __name__ == "__main__":
    unittest.main()
