"""Judging runs, orders and stories (points [4], [5] and [6], the interface's judge.py)."""

import unittest

from model import Model, chance_book, chance_rows, meeting, rows_of_heap, seeded, standing, torn_off, walk
from refusing import Refusing
from tearboard.board import Board
from tearboard.books import Book
from tearboard.errors import NeverClear, NoPad
from tearboard.heaps import Heap
from tearboard.judge import order_holds, run_holds, story_holds

HUGE = 10 ** 30 - 1
BOOK = Book([2, 3], figures=[((0, 1, 2), (1, 0, 1)), ((1, 2, 1),)])
ONE = Book([2], figures=[((0, 0, 1),), ((0, 1, 1),)])
# Pad 1 alone, the pads 0 and 2 by figures 1 and 2, pad 3 without a figure.
PARTS = Book([2, 2, 3, 1], figures=[((1, 0, 1),), ((0, 0, 1), (2, 0, 1)), ((2, 1, 2),), ((1, 1, 2),)])
# One behind the other: figure 0 on pad 0, then 1 on both, then 2 on pad 1.
RELAY = Book([2, 2], figures=[((0, 0, 1),), ((0, 1, 1), (1, 0, 1)), ((1, 1, 1),)])


def relay_board(many):
    """A board that ends behind 400 sweeps and so many more."""
    return Board(RELAY, rows=[([0] * 399 + [1], []), ([0] + [1] * many, [])])


def plain_run(book, rows, row):
    """Whether a row of figures goes, by tearing one behind the other."""
    figures = book.figures()
    for figure in row:
        if figure not in standing(figures, rows):
            return False
        rows = torn_off(figures, rows, figure)[1]
    return not standing(figures, rows)


def chance_run(chance, board):
    """A row in which a board that ends can be torn, in any order."""
    rows, row, figures = board.rows(), [], board.book().figures()
    while standing(figures, rows):
        row.append(chance.choice(standing(figures, rows)))
        rows = torn_off(figures, rows, row[-1])[1]
    return row


def bent(chance, row, book):
    """The row bent once in each way."""
    at, other = chance.randint(0, len(row)), chance.randint(0, len(row))
    any_figure = chance.randint(0, max(len(book) - 1, 0))
    yield row[:at] + row[at + 1:]
    yield row[:at] + [any_figure] + row[at:]
    yield row[:at] + [any_figure] + row[at + 1:]
    yield row[:at]
    yield row + row
    yield row[::-1]
    if row:
        one, two = at % len(row), other % len(row)
        turned = list(row)
        turned[one], turned[two] = row[two], row[one]
        yield turned
    for none in (-1, len(book), -2, HUGE, -HUGE):
        yield row[:at] + [none] + row[at:]
        yield row[:at] + [none] + row[at + 1:]


def ending_boards(seed, many):
    """Boards that end, of which something is torn mostly."""
    chance = seeded(seed)
    told = []
    while len(told) < many:
        book = chance_book(chance, pads=4, colours=2, figures=6)
        board = Board(book, rows=chance_rows(chance, book, lead=6, rounds=0.1))
        try:
            heap = board.twin().heap()
        except NeverClear:
            continue
        if len(heap) > 0 or chance.random() < 0.05:
            told.append(board)
    return told


class Runs(Refusing):
    def test_plain_runs(self):
        board = Board(BOOK, rows=[([1, 0, 1], []), ([0, 2], [])])
        self.assertIs(run_holds(board, [0, 1]), True)
        for row in ([], [0], [1], [1, 0], [0, 1, 1], [0, 1, 0], [0, 0], [0, 2], [2, 0, 1], [-1], [-2, 1], [0, -1],
                    [0, HUGE], [-HUGE, 0, 1], [0, 1, -1], [0, 1, 2]):
            self.assertIs(run_holds(board, row), False, row)
        self.assertIs(run_holds(Board(BOOK), []), True)
        self.assertIs(run_holds(Board(BOOK), [0]), False)
        self.assertIs(run_holds(Board(Book([1])), []), True)
        self.assertIs(run_holds(Board(Book([1])), [0]), False)

    def test_a_board_that_never_ends_has_none(self):
        rings = Board(ONE, rows=[([], [0, 1])])
        for many in range(9):
            self.assertIs(run_holds(rings, ([0, 1] * 5)[:many]), False)
        # A part may end behind a round that goes on for ever.
        half = Board(Book([2], figures=[((0, 0, 1),)]), rows=[([], [0, 1])])
        self.assertEqual([run_holds(half, [0] * many) for many in range(3)], [False, True, False])

    def test_long_runs(self):
        board = relay_board(99)
        row = [0] * 399 + [1] + [2] * 99
        self.assertIs(run_holds(board, row), True)
        self.assertIs(run_holds(board, tuple(row)), True)
        self.assertIs(run_holds(board, row + [2]), False)
        self.assertIs(run_holds(board, row[:-1]), False)

    def test_rows_that_go_and_bent_ones(self):
        chance = seeded(81)
        seen = {True: 0, False: 0}
        for board in ending_boards(82, 150):
            book, rows = board.book(), board.rows()
            for _ in range(3):
                row = chance_run(chance, board)
                self.assertIs(run_holds(board, row), True)
                for other in bent(chance, row, book):
                    told = run_holds(board, other)
                    self.assertIs(told, plain_run(book, rows, other), (book, rows, other))
                    seen[told] += 1
            self.assertIs(run_holds(board, board.twin().heap().row()), True)
        self.assertGreater(min(seen.values()), 100)

    def test_what_is_handed_in_stays(self):
        board = Board(BOOK, rows=[([1, 0, 1], []), ([0, 2], [])])
        board.put(0, 0)
        board.undo()
        twin = board.twin()
        for row in ([0, 1], [0], [1], [0, 1, 7]):
            kept = list(row)
            self.assertEqual(run_holds(board, row), run_holds(row=tuple(row), board=board))
            self.assertEqual(row, kept)
            self.assertEqual(board, twin)
            self.assertEqual((board.steps(), board.kept(), board.found()), ((0, 1), 0, 0))
        board.heap()
        self.assertIs(run_holds(board, [0, 1]), True)
        self.assertEqual((board.kept(), board.found()), (2, 2))


class Orders(Refusing):
    def test_plain_orders(self):
        book = Book([2, 2], figures=[((0, 0, 1),), ((1, 0, 1),), ((0, 1, 1), (1, 1, 1))])
        heap = Heap(book, [0, 1, 0, 2, 1])
        for row in ([0, 1, 0, 2, 1], [1, 0, 0, 2, 1], [0, 0, 1, 2, 1]):
            self.assertIs(order_holds(heap, row), True)
        for row in ([], [0, 1, 0, 2], [0, 1, 0, 1, 2], [0, 1, 2, 0, 1], [2, 0, 1, 0, 1], [0, 1, 0, 2, 1, 1],
                    [0, 1, 0, 2, 0], [0, 1, 0, 2, 3], [0, 1, 0, 2, -2], [-3, 1, 0, 2, 1], [0, 1, 0, 2, 1, HUGE],
                    [0, 1, 0, 2, 1, -1], [-HUGE]):
            self.assertIs(order_holds(heap, row), False, row)
        self.assertIs(order_holds(Heap(book), []), True)
        self.assertIs(order_holds(Heap(book), [0]), False)
        self.assertIs(order_holds(Heap(Book([1])), []), True)
        self.assertIs(order_holds(Heap(Book([1])), [0]), False)

    def test_all_orders_of_small_heaps_and_bent_ones(self):
        chance = seeded(83)
        seen = {True: 0, False: 0}
        for _ in range(120):
            book = chance_book(chance, pads=4, colours=2, figures=6)
            if len(book) == 0:
                continue
            row = [chance.randrange(len(book)) for _ in range(chance.randint(0, 6))]
            heap, orders = Heap(book, row), rows_of_heap(book, row)
            self.assertTrue(all(order_holds(heap, list(order)) for order in orders))
            for _ in range(3):
                shuffled = chance.sample(row, len(row))
                for other in [shuffled, *bent(chance, shuffled, book), *bent(chance, row, book)]:
                    told = order_holds(heap, other)
                    self.assertIs(told, tuple(other) in orders, (book, row, other))
                    seen[told] += 1
        self.assertGreater(min(seen.values()), 100)

    def test_neighbours_exchanged(self):
        chance = seeded(84)
        for _ in range(60):
            book = chance_book(chance, pads=5, colours=2, figures=8)
            if len(book) == 0:
                continue
            row = [chance.randrange(len(book)) for _ in range(40)]
            for at in range(39):
                other = row[:at] + [row[at + 1], row[at]] + row[at + 2:]
                same = row[at] == row[at + 1] or not meeting(book, row[at], row[at + 1])
                self.assertIs(order_holds(Heap(book, row), other), same)

    def test_orders_of_a_board_are_its_runs(self):
        chance = seeded(85)
        for board in ending_boards(86, 60):
            heap = board.twin().heap()
            row = chance_run(chance, board)
            self.assertIs(order_holds(heap, row), True)
            for other in bent(chance, row, board.book()):
                self.assertIs(order_holds(heap, other), run_holds(board, other))

    def test_what_is_handed_in_stays(self):
        heap = Heap(RELAY, [0, 1, 2])
        for row in ([0, 1, 2], [0, 2, 1], [5]):
            kept = list(row)
            self.assertEqual(order_holds(heap, row), order_holds(row=tuple(row), heap=heap))
            self.assertEqual((row, heap.row()), (kept, [0, 1, 2]))


def plain_story(model, part, story):
    """Whether a story holds, by going through the sweeps one by one."""
    word, *numbers = story
    if any(number > 500 or number < 0 for number in numbers):
        return False
    rows, told, torn = model.rows, [], []
    for _ in range(max(numbers) + 1):
        told.append([rows[pad] for pad in part])
        torn.append([at for at in standing(model.figures, rows) if model.figures[at][0][0] in part])
        for at in torn[-1]:
            rows = torn_off(model.figures, rows, at)[1]
    if word == "ends" and len(numbers) == 1:
        many = numbers[0]
        return not torn[many] and all(torn[:many])
    if word == "again" and len(numbers) == 2:
        first, later = numbers
        return first < later and told[first] == told[later] and any(torn[first:later])
    return False


class Stories(Refusing):
    def test_stories_that_end(self):
        board = Board(ONE, rows=[([0, 1, 1], [])])
        self.assertIs(story_holds(board, 0, ("ends", 3)), True)
        for number in (-1, 0, 1, 2, 4, 5, 499, 500, 501, HUGE, -HUGE):
            self.assertIs(story_holds(board, 0, ("ends", number)), False)
        for story in (("again", 3), ("again", 0, 3), ("again", 3, 4), ("ends", 0, 3), ("ends", 3, 3), ("ends", 3, 4),
                      ("Ends", 3), ("", 3), ("far", 3), ("end", 3), ("ends ", 3), ("again", 3, 3), ("again", 4, 5)):
            self.assertIs(story_holds(board, 0, story), False, story)
        self.assertIs(story_holds(Board(ONE), 0, ("ends", 0)), True)
        self.assertIs(story_holds(Board(ONE), 0, ("ends", 1)), False)
        self.assertIs(story_holds(Board(ONE), 0, ("again", 0, 1)), False)

    def test_stories_that_come_again(self):
        rings = Board(ONE, rows=[([], [0, 1])])
        for story in ((0, 2), (0, 4), (0, 500), (1, 3), (1, 5), (1, 499), (498, 500), (2, 4)):
            self.assertIs(story_holds(rings, 0, ("again", *story)), True, story)
        for story in ((0, 0), (0, 1), (2, 0), (2, 2), (0, 3), (1, 2), (0, 502), (500, 502), (499, 501), (501, 503),
                      (-2, 0), (-1, 1), (-2, 2), (0, -2), (-2, -4), (-4, -2), (0, HUGE), (-HUGE, 0), (0, HUGE - 1)):
            self.assertIs(story_holds(rings, 0, ("again", *story)), False, story)
        for story in (("ends", 0), ("ends", 2), ("ends", 0, 2), ("again", 2), ("again", 0), ("Again", 0, 2),
                      ("", 0, 2), ("far", 0, 2)):
            self.assertIs(story_holds(rings, 0, story), False, story)
        late = Board(ONE, rows=[([1, 1], [0, 1, 0])])
        self.assertEqual(late.story(0), ("again", 2, 5))
        for story in ((2, 5), (2, 8), (3, 6), (4, 7), (2, 500 - 498 % 3)):
            self.assertIs(story_holds(late, 0, ("again", *story)), True, story)
        for story in ((1, 4), (0, 3), (0, 5), (1, 5), (2, 4), (2, 6), (3, 5), (0, 6)):
            self.assertIs(story_holds(late, 0, ("again", *story)), False, story)

    def test_five_hundred_and_one_more(self):
        self.assertEqual([relay_board(many).story(0) for many in (100, 101)], [("ends", 500), ("ends", 501)])
        self.assertIs(story_holds(relay_board(100), 1, ("ends", 500)), True)
        self.assertIs(story_holds(relay_board(101), 1, ("ends", 501)), False)
        self.assertIs(story_holds(relay_board(101), 1, ("ends", 500)), False)
        still = Board(ONE, rows=[([], [0])])
        self.assertIs(story_holds(still, 0, ("again", 499, 500)), True)
        self.assertIs(story_holds(still, 0, ("again", 0, 500)), True)
        for story in ((500, 500), (500, 501), (0, 501), (501, 502)):
            self.assertIs(story_holds(still, 0, ("again", *story)), False)
        long = Board(ONE, rows=[([1] * 400, [0] * 11 + [1])])
        self.assertEqual(long.story(0), ("again", 399, 411))
        self.assertIs(story_holds(long, 0, ("again", 399, 411)), True)
        self.assertIs(story_holds(long, 0, ("again", 399, 495)), True)
        self.assertIs(story_holds(long, 0, ("again", 398, 410)), False)
        self.assertIs(story_holds(long, 0, ("again", 399, 507)), False)

    def test_the_story_is_of_the_part(self):
        rows = [([0, 0], []), ([], [0]), ([0, 1, 0, 0], []), ([0], [])]
        board = Board(PARTS, rows=rows)
        stories = [("ends", 3), ("again", 0, 1), ("ends", 3), ("ends", 0)]
        for pad in range(4):
            wanted = [story == stories[pad] for story in stories]
            self.assertEqual([story_holds(board, pad, story) for story in stories], wanted)

    def test_no_pad_goes_ahead(self):
        board = Board(PARTS)
        for pad in (-1, 4, HUGE, -HUGE):
            for story in (("ends", 0), ("ends", 501), ("again", -1, 2), ("what", 0)):
                self.refuses(NoPad, {"pad": pad}, story_holds, board, pad, story)

    def test_told_stories_and_turned_ones(self):
        chance = seeded(87)
        seen = {True: 0, False: 0}
        for _ in range(150):
            book = chance_book(chance, pads=3, colours=2, figures=8)
            rows = chance_rows(chance, book, lead=4, turn=4, rounds=0.7)
            board, model = Board(book, rows=rows), Model(book.colours(), book.figures(), rows)
            for part in book.parts():
                word, *numbers = walk(model.figures, model.rows, part, 20000)[0]
                self.assertIs(story_holds(board, chance.choice(part), (word, *numbers)), True)
                around = numbers[-1] - numbers[0] if word == "again" else 1
                last = numbers[-1]
                others = [(word, *numbers[:-1], last + chance.choice((-3, -2, -1, 1, 2, 3)))]
                others += [("again" if word == "ends" else "ends", *numbers), (word, *numbers, last)]
                others += [("again", numbers[0], last + around), ("again", numbers[0], last + 2 * around)]
                others += [("again", numbers[0] + 1, last + 1), ("again", numbers[0] - 1, last - 1)]
                others += [("again", first, later) for first in range(-1, 5) for later in range(-1, 7)]
                others += [("ends", many) for many in range(-1, 6)] + [(word, *numbers[:-1], 501), (word, -1, last)]
                for story in others:
                    told = story_holds(board, part[0], story)
                    self.assertIs(told, plain_story(model, part, story), (book, rows, story))
                    seen[told] += 1
        self.assertGreater(min(seen.values()), 100)

    def test_what_is_handed_in_stays(self):
        board = Board(PARTS, rows=[([0, 0], []), ([], [0]), ([0, 1, 0, 0], []), ([0], [])])
        board.sweep()
        board.undo()
        twin = board.twin()
        for story in (("ends", 3), ("ends", 4), ("again", 0, 1), ("again", 0, 501)):
            told = story_holds(board, 2, story)
            self.assertEqual(story_holds(story=story, pad=2, board=board), told)
            self.assertEqual(board, twin)
            self.assertEqual((board.steps(), board.kept(), board.found()), ((0, 1), 0, 0))


if __name__ == "__main__":
    unittest.main()
