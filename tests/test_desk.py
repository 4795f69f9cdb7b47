"""Desks that answer lines for a board (point [14], the interface's desk.py)."""

import unittest

from model import chance_book, chance_rows, seeded, told_of
from refusing import Refusing
from tearboard.board import Board
from tearboard.books import Book
from tearboard.desk import Desk
from tearboard.heaps import Heap
from tearboard.texts import row_text

BOOK = Book([2, 3], figures=[((0, 1, 2), (1, 0, 1)), ((1, 2, 1),)])
ROWS = [([1, 0, 1], []), ([0, 2], [])]
# The pads 0 and 1 are a part that may never end, pad 2 one that may, too.
WIDE = Book([2, 2, 2], figures=[((0, 0, 1), (1, 0, 1)), ((0, 1, 1),), ((1, 1, 1),), ((2, 0, 1),), ((2, 1, 2),)])

# Lines that are nearly of a form, or of none.
UNKNOWN = [
    "", " ", "  ", "\n", "what", "done", "none", "no", "write 0 1", "reset 0 1", "lay 0", "twin", "torn", "rows",
    "kept", "put", "put 0", "put 0 1 1", "put  0 1", "put 0  1", " put 0 1", "put 0 1 ", "put 0 1\n", "put\n0 1",
    "put 0\n1", "Put 0 1", "PUT 0 1", "put 00 1", "put 0 01", "put 00 01", "put 12345 0", "put 0 12345",
    "put 00000 0", "put -1 0", "put 0 -1", "put +0 1", "put 0 +1", "put 0,1", "put 0 1.", "put a 1", "put 0 b",
    "put 0 1 # top", "put: 0 1", "put0 1", "put 0_1 1", "put 0 1e1", "put 0x1 1", "change", "change 0",
    "change 0 1", "change 0 1 1 1", "change 0 01 1", "change 0 -1 1", "change 0  1 1", "change 0 1 1 ",
    "change 0 10000 1", "Change 0 1 1", "tear", "tear 0 1", "tear 01", "tear -1", "tear +0", "tear  0", "tear 0 ",
    "tear 10000", "Tear 0", "tear x", "tear (0)", "sweep 0", "sweep ", " sweep", "Sweep", "SWEEP", "sweeps",
    "sweep\n", "settle 0", "settle ", "settle 20000", "Settle", "undo 1", "undo ", "Undo", "undo undo", "redo 1",
    " redo", "REDO", "stands 0", "stands ", "Stands", "stand", "standing", "heap 0", "heap ", "Heap", "left 0",
    " left", "LEFT", "pad", "pad 0 1", "pad 00", "pad -1", "pad 10000", "pad  0", "Pad 0", "pad x", "pad 0 ",
    "pads 0", "story", "story 0 1", "story 00", "story -1", "story 99999", "story  0", "Story 0", "story 0\n", "~",
    "sweep sweep", "sweep\nsweep", "0", "0 put 1", "1 2 3", "-", "put 1 0" * 500, "9" * 9000, "tear " + "9" * 8000,
]


def desk_of(book=BOOK, rows=None):
    return Desk(Board(book, rows=rows))


class Lines(Refusing):
    def says(self, desk, *pairs):
        """Checks that the lines are answered so, and each is counted."""
        for line, wanted in pairs:
            many = len(desk)
            self.assertEqual(desk.say(line), wanted, line)
            self.assertEqual(len(desk), many + 1)

    def test_deeds(self):
        desk = desk_of(rows=ROWS)
        self.says(desk, ("put 0 0", "done"), ("pad 0", "0101"), ("change 0 0 1", "done"), ("pad 0", "1101"),
                  ("change 1 1 1", "done"), ("pad 1", "01"), ("tear 0", "done"), ("pad 0", "01"), ("pad 1", "1"),
                  ("undo", "done"), ("pad 1", "01"), ("redo", "done"), ("pad 1", "1"), ("sweep", "done"),
                  ("settle", "done"), ("pad 0", "01"))
        self.assertEqual(desk.board().steps(), (6, 0))
        self.assertEqual(desk.board().rows(), [((0, 1), ()), ((1,), ())])

    def test_sweep_and_settle(self):
        desk = desk_of(rows=ROWS)
        self.says(desk, ("sweep", "done"), ("pad 0", "1"), ("pad 1", "2"), ("undo", "done"), ("settle", "done"),
                  ("pad 0", "1"), ("pad 1", "-"), ("sweep", "done"), ("settle", "done"), ("undo", "done"))

    def test_refused_deeds(self):
        desk = desk_of(rows=ROWS)
        twin = desk.board().twin()
        self.says(desk, ("put 2 0", "no NoPad"), ("put 9999 9999", "no NoPad"), ("put 0 2", "no BadNote"),
                  ("put 1 9999", "no BadNote"), ("change 2 0 0", "no NoPad"), ("change 0 3 9", "no NoNote"),
                  ("change 0 9999 0", "no NoNote"), ("change 0 2 2", "no BadNote"), ("tear 2", "no NoFigure"),
                  ("tear 9999", "no NoFigure"), ("tear 1", "no NotStanding"), ("undo", "no NothingBack"),
                  ("redo", "no NothingAgain"), ("pad 2", "no NoPad"), ("pad 9999", "no NoPad"),
                  ("story 2", "no NoPad"), ("story 9999", "no NoPad"))
        self.assertEqual(desk.board(), twin)
        self.assertEqual(desk.board().steps(), (0, 0))
        full = desk_of(rows=[([0] * 400, []), ([], [])])
        self.says(full, ("put 0 0", "no Full"), ("change 0 399 1", "done"), ("change 0 400 1", "no NoNote"))
        ring = desk_of(rows=[([], []), ([], [0, 1])])
        self.says(ring, ("change 1 399 2", "done"), ("change 1 400 2", "no NoNote"))

    def test_what_stands(self):
        self.says(desk_of(rows=ROWS), ("stands", "0"))
        self.says(desk_of(), ("stands", "none"))
        self.says(desk_of(WIDE, [([0], []), ([0], []), ([1, 1], [])]), ("stands", "0 4"))
        self.says(desk_of(WIDE, [([1], []), ([1], []), ([0], [])]), ("stands", "1 2 3"))
        self.says(desk_of(Book([1])), ("stands", "none"))

    def test_heap(self):
        self.says(desk_of(rows=ROWS), ("heap", "0; 1"), ("heap", "0; 1"))
        self.says(desk_of(), ("heap", "none"))
        self.says(desk_of(WIDE, [([1, 0], []), ([1, 0, 1], []), ([0, 0], [])]), ("heap", "1 2 3; 0 3; 2"))
        self.says(desk_of(WIDE, [([], [1]), ([], []), ([], [])]), ("heap", "no NeverClear"), ("left", "no NeverClear"),
                  ("settle", "no NeverClear"), ("sweep", "done"), ("stands", "1"))

    def test_left(self):
        self.says(desk_of(rows=ROWS), ("left", "1 -"), ("pad 0", "101"))
        self.says(desk_of(), ("left", "- -"))
        self.says(desk_of(Book([1])), ("left", "-"))
        self.says(desk_of(WIDE, [([1, 0], [0, 1]), ([1], []), ([1], [])]), ("left", "0(01) - 1"))

    def test_asking_keeps_and_counts_as_the_board_does(self):
        for line in ("heap", "left"):
            desk = desk_of(rows=ROWS)
            self.says(desk, ("stands", "0"), ("pad 0", "101"), ("story 0", "ends 2"))
            self.assertEqual((desk.board().kept(), desk.board().found()), (0, 0))
            desk.say(line)
            self.assertEqual((desk.board().kept(), desk.board().found()), (2, 2))
            self.says(desk, ("change 1 1 0", "done"))
            self.assertEqual((desk.board().kept(), desk.board().found()), (1, 2))
            self.assertEqual(desk.board().steps(), (1, 0))

    def test_pad(self):
        desk = desk_of(Book([4, 1]), [([0, 1, 2, 0], [1, 3]), ([], [])])
        self.says(desk, ("pad 0", "0120(13)"), ("pad 1", "-"), ("put 1 0", "done"), ("pad 1", "0"))
        self.says(desk_of(Book([2]), [([], [0])]), ("pad 0", "(0)"))

    def test_story(self):
        desk = desk_of(WIDE, [([], [1, 1, 1]), ([1], []), ([0, 1, 0, 0], [])])
        self.says(desk, ("story 0", "again 1 2"), ("story 1", "again 1 2"), ("story 2", "ends 3"))
        self.says(desk_of(), ("story 1", "ends 0"))
        long = desk_of(Book([2], figures=[((0, 0, 1),), ((0, 1, 1),)]), [([1] * 400, [0] * 11 + [1])])
        self.says(long, ("story 0", "again 399 411"))

    def test_any_other_line(self):
        desk = desk_of(rows=ROWS)
        twin = desk.board().twin()
        for at, line in enumerate(UNKNOWN):
            self.assertEqual(desk.say(line), "what", line)
            self.assertEqual(len(desk), at + 1)
        self.assertEqual(desk.board(), twin)
        self.assertEqual((desk.board().steps(), desk.board().kept(), desk.board().found()), ((0, 0), 0, 0))

    def test_numbers_of_four_figures_are_numbers(self):
        desk = desk_of(rows=ROWS)
        self.says(desk, ("put 1000 0", "no NoPad"), ("put 0 1000", "no BadNote"), ("change 0 1000 0", "no NoNote"),
                  ("tear 1000", "no NoFigure"), ("pad 1000", "no NoPad"), ("story 1000", "no NoPad"))


class Desks(Refusing):
    def test_of_that_very_board(self):
        board = Board(BOOK, rows=ROWS)
        desk, other = Desk(board), Desk(board=board)
        self.assertIs(desk.board(), board)
        self.assertIs(other.board(), board)
        self.assertEqual((len(desk), len(other)), (0, 0))
        self.assertEqual(desk.say("put 0 0"), "done")
        self.assertEqual(other.say(line="pad 0"), "0101")
        self.assertEqual(other.say("undo"), "done")
        self.assertEqual(desk.say("undo"), "no NothingBack")
        self.assertEqual(desk.say("redo"), "done")
        self.assertEqual((len(desk), len(other)), (3, 2))
        self.assertEqual(board.rows(), [((0, 1, 0, 1), ()), ((0, 2), ())])

    def test_what_the_board_does_between(self):
        board = Board(BOOK, rows=ROWS)
        desk = Desk(board)
        board.tear(0)
        self.assertEqual([desk.say("pad 0"), desk.say("tear 0"), desk.say("stands")], ["1", "no NotStanding", "1"])
        board.reset(1, [], turn=[2])
        self.assertEqual([desk.say("pad 1"), desk.say("heap")], ["(2)", "no NeverClear"])
        self.assertEqual(desk.say("story 1"), "again 0 1")
        self.assertEqual([desk.say("undo"), desk.say("undo"), desk.say("undo")], ["done", "done", "no NothingBack"])
        board.redo()
        self.assertEqual([desk.say("left"), desk.say("redo"), desk.say("redo")], ["1 -", "done", "no NothingAgain"])
        board.all_of([("reset", 1, [], []), ("put", 1, 2)])
        self.assertEqual([desk.say("heap"), desk.say("undo"), desk.say("pad 1")], ["1", "done", "(2)"])
        self.assertEqual(len(desk), 15)

    def test_many_lines_beside_a_twin(self):
        chance = seeded(141)
        for _ in range(60):
            book = chance_book(chance, pads=3, colours=3, figures=6)
            board = Board(book, rows=chance_rows(chance, book, rounds=0.15))
            twin, desk = board.twin(), Desk(board)
            for at in range(40):
                pad, note, depth = chance.randint(0, 3), chance.randint(0, 3), chance.randint(0, 6)
                figure = chance.randint(0, 6)
                line, call, given = chance.choice((
                    (f"put {pad} {note}", twin.put, (pad, note)), (f"tear {figure}", twin.tear, (figure,)),
                    (f"change {pad} {depth} {note}", twin.change, (pad, depth, note)), ("sweep", twin.sweep, ()),
                    ("settle", twin.settle, ()), ("undo", twin.undo, ()), ("redo", twin.redo, ()),
                    ("stands", twin.standing, ()), ("heap", twin.heap, ()), ("left", twin.left, ()),
                    (f"pad {pad}", twin.height, (pad,)), (f"story {pad}", twin.story, (pad,)),
                ))
                told = told_of(call, *given)
                self.assertEqual(desk.say(line), self.wanted(line, told, twin))
                self.assertEqual(len(desk), at + 1)
                self.assertEqual(board, twin)
                self.assertEqual(board.steps(), twin.steps())
                self.assertEqual((board.kept(), board.found()), (twin.kept(), twin.found()))

    def wanted(self, line, told, twin):
        """The answer that belongs to what the twin told."""
        if told[0] != "told":
            return "no " + told[0]
        word, *numbers = line.split()
        if word in ("put", "change", "tear", "sweep", "settle", "undo", "redo"):
            return "done"
        if word == "pad":
            return row_text(twin.rows()[int(numbers[0])])
        if word == "left":
            return " ".join(row_text(row) for row in told[1])
        if word == "heap":
            self.assertIsInstance(told[1], Heap)
            return str(told[1]) or "none"
        return " ".join(str(thing) for thing in told[1]) or "none"


if __name__ == "__main__":
    unittest.main()
