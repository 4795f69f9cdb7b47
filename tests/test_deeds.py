"""Deeds on a board, by their methods and as tuples, with their refusals (point [9])."""

import unittest

from model import odometer
from refusing import Refusing
from tearboard.board import Board
from tearboard.books import Book
from tearboard.errors import BadBeneath, BadDeed, BadNote, BadRow, Full, NeverClear, NoEnd, NoFigure, NoNote, NoPad
from tearboard.errors import NotStanding, TooFar

HUGE = 10 ** 30 - 1
BOOK = Book([2, 3], figures=[((0, 1, 2), (1, 0, 1)), ((1, 2, 1),)])
DEEP = Book([4, 2, 3], figures=[((0, 3, 3), (2, 1, 2)), ((1, 0, 1),), ((0, 2, 1), (1, 1, 3))])
RINGS = Book([2, 2], figures=[((0, 0, 1),), ((0, 1, 1),), ((1, 0, 1),)])
NO_PADS = (-1, 2, 6, HUGE, -HUGE)
METHODS = {
    "put": lambda board, deed: board.put(deed[1], deed[2]),
    "write": lambda board, deed: board.write(deed[1], deed[2]),
    "change": lambda board, deed: board.change(deed[1], deed[2], deed[3]),
    "reset": lambda board, deed: board.reset(deed[1], deed[2], turn=deed[3]),
    "lay": lambda board, deed: board.lay(deed[1], beneath=deed[2]),
    "tear": lambda board, deed: board.tear(deed[1]),
    "sweep": lambda board, deed: None if isinstance(board.sweep(), list) else "no list",
    "settle": lambda board, deed: None if isinstance(board.settle(), list) else "no list",
}


def board_of(*rows, book=BOOK):
    return Board(book, rows=list(rows))


class Deeds(Refusing):
    def ways(self, deed):
        """The ways to do a deed."""
        return (
            lambda board: METHODS[deed[0]](board, deed),
            lambda board: board.do(deed),
            lambda board: board.do(deed=deed),
            lambda board: board.all_of([deed]),
            lambda board: board.all_of(deeds=(deed,)),
        )

    def done(self, board, deed, rows):
        """Checks the rows behind a deed, each way, and that it is one step that can be taken back and done again."""
        ahead = board.rows()
        for way in self.ways(deed):
            board = Board(board.book(), rows=ahead)
            self.assertIsNone(way(board))
            self.assertEqual(board.rows(), rows)
            self.assertEqual(board.steps(), (1, 0))
            board.undo()
            self.assertEqual(board.rows(), ahead)
            board.redo()
            self.assertEqual(board.rows(), rows)

    def refused(self, kind, values, board, deed):
        """Checks a refusal each way, and that it changes nothing."""
        board.reset(0, [])
        board.undo()
        rows = board.rows()
        for way in self.ways(deed):
            self.refuses(kind, values, way, board)
            self.assertEqual((board.rows(), board.steps()), (rows, (0, 1)))


class Put(Deeds):
    def test_rows_behind_it(self):
        self.done(board_of(([1], []), ([0], [])), ("put", 0, 0), [((0, 1), ()), ((0,), ())])
        self.done(Board(BOOK), ("put", 1, 2), [((), ()), ((2,), ())])
        self.done(board_of(([1], [0]), ([0], [])), ("put", 0, 0), [((0, 1), (0,)), ((0,), ())])

    def test_the_round_swallows_it(self):
        self.done(board_of(([], [0, 1]), ([], [])), ("put", 0, 1), [((), (1, 0)), ((), ())])
        self.done(board_of(([], [0, 1]), ([], [])), ("put", 0, 0), [((0,), (0, 1)), ((), ())])
        self.done(board_of(([], [1]), ([], [])), ("put", 0, 1), [((), (1,)), ((), ())])

    def test_full(self):
        self.done(board_of(([1] * 399, []), ([], [])), ("put", 0, 0), [((0,) + (1,) * 399, ()), ((), ())])
        self.refused(Full, {"pad": 1}, board_of(([], []), ([1] * 400, [])), ("put", 1, 0))
        self.refused(Full, {"pad": 1}, board_of(([], []), ([1] * 400, [0])), ("put", 1, 0))
        # As handed in its lead has 400 notes, as told it has none: the round swallows one more, too.
        self.done(board_of(([], []), ([1] * 400, [1])), ("put", 1, 1), [((), ()), ((), (1,))])
        self.done(board_of(([], []), ([1] * 400, [1])), ("put", 1, 0), [((), ()), ((0,), (1,))])
        self.done(board_of(([], []), ([0] + [1] * 399, [1])), ("put", 1, 2), [((), ()), ((2, 0), (1,))])

    def test_refusals(self):
        full = ([1] * 400, [])
        for pad in NO_PADS:
            self.refused(NoPad, {"pad": pad}, board_of(([], []), full), ("put", pad, 9))
        for note in (-1, 3, HUGE, -HUGE):
            self.refused(BadNote, {"note": note}, board_of(([], []), full), ("put", 1, note))
        self.refused(BadNote, {"note": 2}, Board(BOOK), ("put", 0, 2))


class Write(Deeds):
    def test_rows_behind_it(self):
        self.done(board_of(([1], []), ([0], [])), ("write", 1, [2, 1]), [((1,), ()), ((0, 2, 1), ())])
        self.done(board_of(([1], []), ([0], [1])), ("write", 0, (0,)), [((1, 0), ()), ((0,), (1,))])
        self.done(Board(BOOK), ("write", 0, [1, 1, 1]), [((1, 1, 1), ()), ((), ())])
        self.done(board_of(([1], []), ([0], [])), ("write", 0, []), [((1,), ()), ((0,), ())])

    def test_full(self):
        self.done(Board(BOOK), ("write", 1, [0, 2] * 200), [((), ()), ((0, 2) * 200, ())])
        self.done(board_of(([], []), ([1] * 397, [])), ("write", 1, [0] * 3), [((), ()), ((1,) * 397 + (0,) * 3, ())])
        self.done(board_of(([], []), ([1] * 400, [])), ("write", 1, []), [((), ()), ((1,) * 400, ())])
        self.refused(Full, {"pad": 1}, board_of(([], []), ([1] * 397, [])), ("write", 1, [0] * 4))
        self.refused(Full, {"pad": 0}, Board(BOOK), ("write", 0, [0] * 401))
        self.refused(Full, {"pad": 1}, board_of(([], []), ([1] * 400, [])), ("write", 1, [0]))

    def test_refusals(self):
        for pad in NO_PADS:
            self.refused(NoPad, {"pad": pad}, board_of(([], [0]), ([], [0])), ("write", pad, [9]))
        self.refused(NoEnd, {"pad": 1}, board_of(([], []), ([1] * 400, [0])), ("write", 1, [9] + [0] * 499))
        self.refused(NoEnd, {"pad": 0}, board_of(([], [1]), ([], [])), ("write", 0, []))
        for note in (3, -1, HUGE, -HUGE):
            self.refused(BadNote, {"note": note}, Board(BOOK), ("write", 1, [2, note, 7]))
            self.refused(BadNote, {"note": note}, Board(BOOK), ("write", 1, [0] * 450 + [note]))
        self.refused(BadNote, {"note": 2}, Board(BOOK), ("write", 0, [2]))

    def test_notes_handed_in_stay_and_are_copied(self):
        notes = [1, 0]
        board = Board(BOOK)
        board.write(notes=notes, pad=0)
        notes.append(1)
        self.assertEqual(board.rows()[0], ((1, 0), ()))
        board.write(0, notes)
        self.assertEqual(notes, [1, 0, 1])


class Change(Deeds):
    def test_rows_behind_it(self):
        board = board_of(([1, 0, 1], []), ([0, 2], [1, 0]))
        self.done(board, ("change", 0, 0, 0), [((0, 0, 1), ()), ((0, 2), (1, 0))])
        self.done(board, ("change", 0, 2, 0), [((1, 0, 0), ()), ((0, 2), (1, 0))])
        self.done(board, ("change", 0, 1, 0), [((1, 0, 1), ()), ((0, 2), (1, 0))])
        self.done(board, ("change", 1, 0, 2), [((1, 0, 1), ()), ((2, 2), (1, 0))])

    def test_a_round_is_unrolled(self):
        board = board_of(([1], []), ([0, 2], [1, 0]))
        self.done(board, ("change", 1, 2, 2), [((1,), ()), ((0, 2, 2), (0, 1))])
        self.done(board, ("change", 1, 3, 2), [((1,), ()), ((0, 2, 1, 2), (1, 0))])
        self.done(board, ("change", 1, 6, 2), [((1,), ()), ((0, 2, 1, 0, 1, 0, 2), (0, 1))])
        self.done(board, ("change", 1, 6, 1), [((1,), ()), ((0, 2), (1, 0))])
        ring = board_of(([], [0]), ([], [0, 1, 2]))
        self.done(ring, ("change", 1, 0, 2), [((), (0,)), ((2,), (1, 2, 0))])
        self.done(ring, ("change", 0, 4, 1), [((0, 0, 0, 0, 1), (0,)), ((), (0, 1, 2))])

    def test_the_round_swallows_what_becomes_alike(self):
        self.done(board_of(([1, 0], [1, 1, 0]), ([], [])), ("change", 0, 0, 1), [((), (1, 0, 1)), ((), ())])
        self.done(board_of(([0, 0, 1], [0]), ([], [])), ("change", 0, 2, 0), [((), (0,)), ((), ())])

    def test_the_depths_0_399_and_400(self):
        full = board_of(([1] * 400, []), ([], [0]))
        self.done(full, ("change", 0, 0, 0), [((0,) + (1,) * 399, ()), ((), (0,))])
        self.done(full, ("change", 0, 399, 0), [((1,) * 399 + (0,), ()), ((), (0,))])
        self.done(full, ("change", 1, 399, 2), [((1,) * 400, ()), ((0,) * 399 + (2,), (0,))])
        self.done(full, ("change", 1, 399, 0), [((1,) * 400, ()), ((), (0,))])
        long = board_of(([], []), ([1] * 400, [0, 2]))
        self.done(long, ("change", 1, 399, 2), [((), ()), ((1,) * 399, (2, 0))])
        for board in (full, long):
            for depth in (400, 401, HUGE, -1, -400, -HUGE):
                self.refused(NoNote, {"depth": depth}, Board(BOOK, rows=board.rows()), ("change", 1, depth, 9))

    def test_refusals(self):
        for pad in NO_PADS:
            self.refused(NoPad, {"pad": pad}, Board(BOOK), ("change", pad, -1, 9))
        for depth in (2, 3, 399, 400, -1, -2, HUGE, -HUGE):
            self.refused(NoNote, {"depth": depth}, board_of(([0, 1], []), ([], [])), ("change", 0, depth, 9))
        self.refused(NoNote, {"depth": 0}, Board(BOOK), ("change", 1, 0, 0))
        for note in (3, -1, HUGE, -HUGE):
            self.refused(BadNote, {"note": note}, board_of(([0], []), ([1], [])), ("change", 1, 0, note))
            self.refused(BadNote, {"note": note}, board_of(([0], []), ([], [1])), ("change", 1, 399, note))


class Reset(Deeds):
    def test_rows_behind_it(self):
        board = board_of(([1], []), ([0], [1]))
        self.done(board, ("reset", 0, [0, 1], []), [((0, 1), ()), ((0,), (1,))])
        self.done(board, ("reset", 1, [2, 1, 0], [1, 0, 1, 0]), [((1,), ()), ((2,), (1, 0))])
        self.done(board, ("reset", 1, (), (2,)), [((1,), ()), ((), (2,))])
        self.done(board, ("reset", 1, [], []), [((1,), ()), ((), ())])
        self.done(board, ("reset", 0, [1] * 400, [1] + [0] * 11), [((1,) * 400, (1,) + (0,) * 11), ((0,), (1,))])

    def test_without_a_round(self):
        board = board_of(([1], [0]), ([0], [1]))
        board.reset(lead=[1, 1], pad=0)
        self.assertEqual(board.rows(), [((1, 1), ()), ((0,), (1,))])

    def test_refusals(self):
        board = board_of(([1], []), ([0], [1]))
        for pad in NO_PADS:
            self.refused(NoPad, {"pad": pad}, Board(BOOK), ("reset", pad, [9], [0] * 13))
        for lead, turn in (([0] * 401, []), ([0] * 401, [0]), ([], [0] * 13), ([2], []), ([0, -1], []), ([], [2]),
                           ([0], [0, HUGE]), ([-HUGE], [])):
            self.refused(BadRow, {"at": 0}, Board(BOOK, rows=board.rows()), ("reset", 0, lead, turn))
        self.refused(BadRow, {"at": 1}, board, ("reset", 1, [3], []))

    def test_lists_handed_in_stay_and_are_copied(self):
        lead, turn = [1, 0], [1, 0]
        board = Board(BOOK)
        board.reset(0, lead, turn=turn)
        self.assertEqual((lead, turn), ([1, 0], [1, 0]))
        lead.clear()
        turn.clear()
        self.assertEqual(board.rows()[0], ((), (1, 0)))


class Lay(Deeds):
    def test_rows_behind_it(self):
        board = board_of(([1], []), ([], [1]), ([0, 2], []), book=DEEP)
        self.done(board, ("lay", 0, [[1, 2], [0]]), [((3, 1, 2, 1), ()), ((), (1,)), ((1, 0, 0, 2), ())])
        self.done(board, ("lay", 0, ((0, 3), (2,))), [((3, 0, 3, 1), ()), ((), (1,)), ((1, 2, 0, 2), ())])
        self.done(board, ("lay", 1, [[]]), [((1,), ()), ((0,), (1,)), ((0, 2), ())])
        self.done(board, ("lay", 2, [[], [1, 1]]), [((2, 1), ()), ((), (1,)), ((0, 2), ())])
        self.done(board, ("lay", 2, [[], [0, 1]]), [((2, 1), ()), ((1, 0), (1,)), ((0, 2), ())])

    def test_none_are_noughts(self):
        for named in ({}, {"beneath": None}):
            board = Board(DEEP)
            self.assertIsNone(board.lay(0, **named))
            self.assertEqual(board.rows(), [((3, 0, 0), ()), ((), ()), ((1, 0), ())])
            board.lay(figure=1, **named)
            board.lay(2, **named)
            self.assertEqual(board.rows(), [((2, 3, 0, 0), ()), ((1, 0, 0, 0), ()), ((1, 0), ())])

    def test_what_is_laid_stands_and_is_torn_again(self):
        board = board_of(([1], []), ([], [1]), ([0, 2], []), book=DEEP)
        rows = board.rows()
        for figure in range(3):
            board.lay(figure)
            self.assertIs(board.stands(figure), True)
            board.tear(figure)
            self.assertEqual(board.rows(), rows)

    def test_full(self):
        near = [([0] * 397, []), ([0] * 397, []), ([0] * 398, [])]
        full = [((3,) + (0,) * 399, ()), ((0,) * 397, ()), ((1,) + (0,) * 399, ())]
        self.done(Board(DEEP, rows=near), ("lay", 0, [[0, 0], [0]]), full)
        at_bound = [([0] * 398, []), ([0] * 400, []), ([0] * 399, [])]
        self.refused(Full, {"pad": 0}, Board(DEEP, rows=at_bound), ("lay", 0, [[0, 0], [0]]))
        self.refused(Full, {"pad": 2}, Board(DEEP, rows=[([0] * 397, []), *at_bound[1:]]), ("lay", 0, [[0, 0], [0]]))
        self.refused(Full, {"pad": 1}, Board(DEEP, rows=at_bound), ("lay", 1, [[]]))
        self.refused(Full, {"pad": 1}, Board(DEEP, rows=at_bound), ("lay", 2, [[], [0, 0]]))
        self.refused(Full, {"pad": 0}, Board(DEEP, rows=[([1] * 400, []), *at_bound[1:]]), ("lay", 2, [[], [0, 0]]))

    def test_the_round_swallows_what_is_laid(self):
        book = Book([2], figures=[((0, 1, 3),)])
        for lead, beneath, row in (([], [1, 1], ((), (1,))), ([0] + [1] * 397, [1, 1], None), ([0], [0, 1], None)):
            board = Board(book, rows=[(lead, [1])])
            self.done(board, ("lay", 0, [beneath]), [row or ((1, *beneath, 0), (1,))])
        long = Board(book, rows=[([1] * 397 + [0], [1])])
        self.refused(Full, {"pad": 0}, long, ("lay", 0, [[1, 1]]))

    def test_refusals(self):
        full = [([1] * 400, []), ([0] * 400, []), ([1] * 400, [])]
        for figure in (-1, 3, 12, HUGE, -HUGE):
            self.refused(NoFigure, {"figure": figure}, Board(DEEP, rows=full), ("lay", figure, [[9]]))
        self.refused(NoFigure, {"figure": 0}, Board(Book([2])), ("lay", 0, []))
        bad = [
            [], [[0, 0]], [[0, 0], [0], []], [[0], [0]], [[0, 0, 0], [0]], [[0, 0], []], [[0, 0], [0, 0]], [[], []],
            [[4, 0], [0]], [[0, -1], [0]], [[0, 0], [3]], [[0, 0], [HUGE]], [[-HUGE, 0], [0]], [[3, 0, 0], [1, 0]],
        ]
        for beneath in bad:
            self.refused(BadBeneath, {}, Board(DEEP, rows=full), ("lay", 0, beneath))
        self.refused(BadBeneath, {}, Board(DEEP, rows=full), ("lay", 1, []))
        self.refused(BadBeneath, {}, Board(DEEP, rows=full), ("lay", 1, [[0]]))

    def test_lists_handed_in_stay_and_are_copied(self):
        beneath = [[1, 2], [0]]
        board = Board(DEEP)
        board.lay(0, beneath=beneath)
        self.assertEqual(beneath, [[1, 2], [0]])
        beneath[0].clear()
        self.assertEqual(board.rows()[0], ((3, 1, 2), ()))


class Tear(Deeds):
    def test_rows_behind_it(self):
        self.done(board_of(([1, 0, 1], []), ([0, 2], [])), ("tear", 0), [((1,), ()), ((2,), ())])
        self.done(board_of(([1, 0, 1], []), ([2, 2], [])), ("tear", 1), [((1, 0, 1), ()), ((2,), ())])
        self.done(board_of(([], [1, 0, 0]), ([0], [1, 2])), ("tear", 0), [((), (0, 1, 0)), ((), (1, 2))])
        self.done(board_of(([1, 0], []), ([0], [])), ("tear", 0), [((), ()), ((), ())])

    def test_by_name(self):
        board = board_of(([1, 0, 1], []), ([0, 2], []))
        board.tear(figure=0)
        self.assertEqual(board.standing(), [1])

    def test_refusals(self):
        for figure in (-1, 2, 12, HUGE, -HUGE):
            self.refused(NoFigure, {"figure": figure}, Board(BOOK), ("tear", figure))
        self.refused(NotStanding, {"figure": 1}, board_of(([1, 0, 1], []), ([0, 2], [])), ("tear", 1))
        self.refused(NotStanding, {"figure": 0}, board_of(([1], []), ([0, 2], [])), ("tear", 0))
        self.refused(NotStanding, {"figure": 0}, board_of(([1, 1], []), ([], [])), ("tear", 0))
        self.refused(NotStanding, {"figure": 0}, board_of(([0, 1], []), ([0], [])), ("tear", 0))


class Sweep(Deeds):
    def test_rows_behind_it(self):
        self.done(board_of(([1, 0, 1], []), ([0, 2], [])), ("sweep",), [((1,), ()), ((2,), ())])
        self.done(board_of(([0], []), ([0, 2], [])), ("sweep",), [((0,), ()), ((0, 2), ())])
        self.done(board_of(([], [0, 1]), ([0, 0], [1]), book=RINGS), ("sweep",), [((), (1, 0)), ((0,), (1,))])

    def test_what_it_tells(self):
        board = board_of(([0, 1], []), ([0, 1], []), book=RINGS)
        self.assertEqual([board.sweep(), board.sweep(), board.sweep()], [[0, 2], [1], []])
        self.assertEqual((board.rows(), board.steps()), ([((), ()), ((1,), ())], (3, 0)))


class Settle(Deeds):
    def test_rows_behind_it(self):
        self.done(board_of(([1, 0, 1], []), ([0, 2], [])), ("settle",), [((1,), ()), ((), ())])
        self.done(board_of(([0], []), ([0, 2], [])), ("settle",), [((0,), ()), ((0, 2), ())])
        self.done(board_of(([0, 0], []), ([0, 0, 0], [1]), book=RINGS), ("settle",), [((), ()), ((), (1,))])
        self.done(board_of(([0] * 400, []), ([], [1]), book=RINGS), ("settle",), [((), ()), ((), (1,))])

    def test_what_it_tells(self):
        board = board_of(([1, 0, 1], []), ([0, 2], []))
        self.assertEqual(board.settle(), [[0], [1]])
        self.assertEqual(board.settle(), [])
        self.assertEqual(board.steps(), (2, 0))
        board = board_of(([0, 1], []), ([0, 0, 0, 1], []), book=RINGS)
        self.assertEqual(board.settle(), [[0, 2], [1, 2], [2]])

    def test_never_clear_names_the_first_pad_of_the_first_part(self):
        ring = ([], [0])
        self.refused(NeverClear, {"pad": 0}, board_of(([], [0, 1]), ring, book=RINGS), ("settle",))
        self.refused(NeverClear, {"pad": 1}, board_of(([0, 1], []), ring, book=RINGS), ("settle",))
        crossed = Book([2, 2, 2, 2], figures=[((1, 0, 1), (3, 0, 1)), ((0, 0, 1), (2, 0, 1))])
        self.refused(NeverClear, {"pad": 1}, board_of(([], []), ring, ring, ring, book=crossed), ("settle",))
        self.refused(NeverClear, {"pad": 0}, board_of(ring, ring, ring, ring, book=crossed), ("settle",))

    def test_bounds_of_settle(self):
        board = board_of(([0] * 5, []), ([0] * 7, []), book=RINGS)
        for most in (6, 5, 0, -1, -HUGE):
            self.refuses(TooFar, {"most": most}, board.settle, most=most)
            self.assertEqual((board.rows()[0], board.steps()), (((0,) * 5, ()), (0, 0)))
        # What counts is each part for itself: 5 and 7, not 12.
        self.assertEqual(board.twin().settle(most=7), [[0, 2]] * 5 + [[2]] * 2)
        self.assertEqual(Board(RINGS).settle(most=0), [])
        self.refuses(TooFar, {"most": -1}, Board(RINGS).settle, most=-1)

    def test_parts_behind_the_first_that_does_not_end_are_not_looked_at(self):
        board = board_of(([], [0, 1]), ([0] * 7, []), book=RINGS)
        self.refuses(NeverClear, {"pad": 0}, board.settle, most=2)
        self.refuses(TooFar, {"most": 1}, board.settle, most=1)
        board = board_of(([0] * 7, []), ([], [0]), book=RINGS)
        self.refuses(TooFar, {"most": 6}, board.settle, most=6)
        self.refuses(NeverClear, {"pad": 1}, board.settle, most=7)

    def test_the_deed_has_the_bound_20000(self):
        self.refused(NeverClear, {"pad": 0}, odometer([10, 10, 10, 10, 2]), ("settle",))
        self.refused(TooFar, {"most": 20000}, odometer([10, 10, 10, 10, 2], lead=[0]), ("settle",))
        self.refuses(NeverClear, {"pad": 0}, odometer([10, 10, 10, 10, 2], lead=[0]).settle, most=20001)


class NoDeeds(Deeds):
    def test_what_has_no_things_another_text_or_another_count(self):
        good = [("put", 0, 1), ("write", 0, [1]), ("change", 0, 0, 1), ("reset", 0, [], []), ("lay", 1, [[]]),
                ("tear", 1), ("sweep",), ("settle",)]
        bad = [(), ("",), ("puts", 0, 1), ("Put", 0, 1), ("undo",), ("redo",), ("twin",), ("heap",), ("do", ("sweep",)),
               (" sweep",), ("sweep ",), ("sweep\n",)]
        bad += [deed[:-1] for deed in good] + [deed + (0,) for deed in good]
        bad += [("lay", 1), ("reset", 0, []), ("settle", 5)]
        board = board_of(([1], []), ([2], []))
        board.put(0, 1)
        board.undo()
        for deed in bad:
            with self.subTest(deed=deed):
                self.refuses(BadDeed, {}, board.do, deed)
                self.refuses(BadDeed, {}, board.all_of, [deed])
                self.assertEqual((board.rows(), board.steps()), ([((1,), ()), ((2,), ())], (0, 1)))
        for deed in good:
            board.twin().do(deed)

    def test_the_count_goes_ahead_of_what_the_things_are(self):
        self.refuses(BadDeed, {}, Board(BOOK).do, ("put", 9))
        self.refuses(BadDeed, {}, Board(BOOK).do, ("tear", 9, 9))

    def test_when_its_turn_comes(self):
        board = board_of(([1], []), ([2], []))
        self.refuses(NoPad, {"pad": 7}, board.all_of, [("put", 7, 0), ()])
        self.refuses(BadDeed, {}, board.all_of, [("put", 0, 0), (), ("put", 7, 0)])
        self.refuses(NotStanding, {"figure": 1}, board.all_of, [("tear", 1), ("tear", 1), ("tears", 1)])
        self.refuses(BadDeed, {}, board.all_of, [("tear", 1), ("tears", 1), ("tear", 1)])
        self.assertEqual((board.rows(), board.steps()), ([((1,), ()), ((2,), ())], (0, 0)))


if __name__ == "__main__":
    unittest.main()
