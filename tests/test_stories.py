"""Stories of parts, and how often each figure is torn (points [5] and [10])."""

import unittest

from model import Model, chance_book, chance_rows, odometer, seeded, told_of
from refusing import Refusing
from tearboard.board import Board
from tearboard.books import Book
from tearboard.errors import BadNumber, NeverClear, NoPad, TooFar

HUGE = 10 ** 30 - 1
FAR = 10 ** 15
# Pad 1 alone, the pads 0 and 2 by figures 1 and 2, pad 3 without a figure.
PARTS = Book([2, 2, 3, 1], figures=[((1, 0, 1),), ((0, 0, 1), (2, 0, 1)), ((2, 1, 2),), ((1, 1, 2),)])
ONE = Book([2], figures=[((0, 0, 1),), ((0, 1, 1),)])


def parts_board(*rows):
    return Board(PARTS, rows=list(rows) + [([], [])] * (4 - len(rows)))


class Stories(Refusing):
    def test_parts_that_end(self):
        self.assertEqual(Board(ONE).story(0), ("ends", 0))
        for many in (1, 2, 399, 400):
            self.assertEqual(Board(ONE, rows=[([0, 1] * 200, [])]).story(0), ("ends", 400))
            self.assertEqual(Board(ONE, rows=[([1] * many, [])]).story(0), ("ends", many))

    def test_a_part_with_a_round_may_end(self):
        book = Book([2], figures=[((0, 0, 2),)])
        self.assertEqual(Board(book, rows=[([0, 1, 0, 0], [1])]).story(0), ("ends", 2))
        self.assertEqual(Board(book, rows=[([], [0, 1, 0, 1, 1])]).story(0), ("ends", 2))
        self.assertEqual(Board(book, rows=[([], [0, 1, 0])]).story(0), ("ends", 2))
        self.assertEqual(Board(book, rows=[([], [0, 0, 0, 1])]).story(0), ("again", 0, 2))

    def test_parts_that_never_end(self):
        self.assertEqual(Board(ONE, rows=[([], [0, 1])]).story(0), ("again", 0, 2))
        self.assertEqual(Board(ONE, rows=[([], [0, 1, 0, 1])]).story(0), ("again", 0, 2))
        self.assertEqual(Board(ONE, rows=[([], [0])]).story(0), ("again", 0, 1))
        self.assertEqual(Board(ONE, rows=[([0, 0, 1], [0])]).story(0), ("again", 3, 4))
        self.assertEqual(Board(ONE, rows=[([1] * 400, [0] * 11 + [1])]).story(0), ("again", 399, 411))
        deep = Book([1], figures=[((0, 0, 3),)])
        self.assertEqual(Board(deep, rows=[([], [0])]).story(0), ("again", 0, 1))

    def test_the_story_is_of_the_part(self):
        board = parts_board(([0, 0], []), ([], [0]), ([0, 1, 0, 0], []), ([0], []))
        wanted = [("ends", 3), ("again", 0, 1), ("ends", 3), ("ends", 0)]
        self.assertEqual([board.story(pad) for pad in range(4)], wanted)
        board = parts_board(([], [0]), ([0] * 3, []), ([], [0, 0, 1, 0]))
        wanted = [("again", 0, 3), ("ends", 3), ("again", 0, 3), ("ends", 0)]
        self.assertEqual([board.story(pad) for pad in range(4)], wanted)
        self.assertEqual(board.story(pad=2), ("again", 0, 3))

    def test_rows_of_a_round_that_come_again_behind_another_count(self):
        # The lead is gone behind one sweep, the two rounds meet again behind 12 * 11 ones.
        figures = [((0, one, 1), (1, two, 1)) for one in (0, 1) for two in (0, 1)]
        book = Book([2, 2], figures=figures)
        board = Board(book, rows=[([1], [1] * 11 + [0]), ([], [1] * 10 + [0])])
        self.assertEqual(board.story(1), ("again", 1, 133))

    def test_bounds_just_enough_and_one_below(self):
        board = Board(ONE, rows=[([0, 1, 1, 0], [])])
        self.assertEqual(board.story(0, most=4), ("ends", 4))
        self.assertEqual(board.story(0, most=HUGE), ("ends", 4))
        for most in (3, 0, -1, -HUGE):
            self.refuses(TooFar, {"most": most}, board.story, 0, most=most)
        ring = Board(ONE, rows=[([1, 1], [0, 1, 0])])
        self.assertEqual(ring.story(0, most=5), ("again", 2, 5))
        for most in (4, 3, 2, 0, -1):
            self.refuses(TooFar, {"most": most}, ring.story, 0, most=most)
        self.assertEqual(Board(ONE).story(0, most=0), ("ends", 0))
        self.refuses(TooFar, {"most": -1}, Board(ONE).story, 0, most=-1)

    def test_the_bound_counts_figures_not_sweeps_and_of_the_part_only(self):
        book = Book([1, 1, 1], figures=[((0, 0, 1),), ((1, 0, 1),), ((2, 0, 1),)])
        board = Board(book, rows=[([0] * 9, []), ([0] * 2, []), ([0], [])])
        self.assertEqual([board.story(pad, most=9) for pad in range(3)], [("ends", 9), ("ends", 2), ("ends", 1)])
        self.assertEqual(board.story(1, most=2), ("ends", 2))
        self.refuses(TooFar, {"most": 8}, board.story, 0, most=8)
        tied = Book([2, 2], figures=[((0, 0, 1),), ((1, 0, 1),), ((0, 1, 1), (1, 1, 1))])
        two = Board(tied, rows=[([0] * 3, []), ([0] * 3, [])])
        self.assertEqual(two.story(0, most=6), ("ends", 3))
        self.refuses(TooFar, {"most": 5}, two.story, 0, most=5)

    def test_the_bound_that_stands(self):
        self.assertEqual(odometer([10, 10, 10, 10, 2]).story(4), ("again", 0, 20000))
        late = odometer([10, 10, 10, 10, 2], lead=[0])
        self.refuses(TooFar, {"most": 20000}, late.story, 0)
        self.refuses(TooFar, {"most": 20000}, late.torn_by, 0)
        self.assertEqual(late.story(0, most=20001), ("again", 1, 20001))

    def test_no_pad_goes_ahead(self):
        for pad in (-1, 4, HUGE, -HUGE):
            self.refuses(NoPad, {"pad": pad}, parts_board().story, pad)
            self.refuses(NoPad, {"pad": pad}, parts_board().story, pad, most=-1)

    def test_many_boards(self):
        chance = seeded(31)
        for _ in range(250):
            book = chance_book(chance, pads=4, colours=2, figures=8)
            rows = chance_rows(chance, book, lead=4, turn=4, rounds=0.6)
            board, model = Board(book, rows=rows), Model(book.colours(), book.figures(), rows)
            for pad in range(book.pads()):
                self.assertEqual(board.story(pad), model.story(pad))
                most = chance.randint(-1, 12)
                self.assertEqual(told_of(board.story, pad, most=most), told_of(model.story, pad, most))
            for sweeps in (0, 1, 2, 5, 40):
                self.assertEqual(board.torn_by(sweeps), model.torn_by(sweeps))

    def test_a_story_told_and_what_it_says(self):
        chance = seeded(32)
        for _ in range(100):
            book = chance_book(chance, pads=3, colours=2, figures=8)
            board = Board(book, rows=chance_rows(chance, book, lead=4, turn=4, rounds=0.8))
            for part in book.parts():
                kind, *numbers = board.story(part[0])
                rows = []
                other = board.twin()
                for _ in range(numbers[-1] + 1):
                    rows.append([other.rows()[pad] for pad in part])
                    other.sweep()
                if kind == "ends":
                    self.assertTrue(all(rows[at] != rows[at + 1] for at in range(numbers[0])))
                    self.assertEqual([other.rows()[pad] for pad in part], rows[-1])
                else:
                    self.assertEqual(rows[numbers[0]], rows[-1])
                    self.assertTrue(all(rows[at] not in rows[:at] for at in range(numbers[1])))

    def test_asking_changes_nothing(self):
        board = parts_board(([0, 0], []), ([], [0]), ([0, 1, 0, 0], []))
        rows = board.rows()
        for _ in range(2):
            self.assertEqual(board.story(0), ("ends", 3))
            self.assertEqual(board.torn_by(2), [2, 1, 1, 0])
        self.assertEqual((board.rows(), board.steps(), board.kept(), board.found()), (rows, (0, 0), 0, 0))


class TornBy(Refusing):
    def test_few_sweeps(self):
        ring = Board(ONE, rows=[([], [0, 1])])
        self.assertEqual([ring.torn_by(many) for many in range(6)], [[0, 0], [1, 0], [1, 1], [2, 1], [2, 2], [3, 2]])
        self.assertEqual(ring.torn_by(sweeps=5), [3, 2])

    def test_far_sweeps(self):
        self.assertEqual(Board(ONE, rows=[([], [0, 1])]).torn_by(FAR), [FAR // 2, FAR // 2])
        self.assertEqual(Board(ONE, rows=[([], [0, 1])]).torn_by(FAR - 1), [FAR // 2, FAR // 2 - 1])
        self.assertEqual(Board(ONE, rows=[([1, 1, 1], [0])]).torn_by(FAR), [FAR - 3, 3])
        self.assertEqual(Board(ONE, rows=[([0] * 400, [])]).torn_by(FAR), [400, 0])
        # 10 ** 15 less 2 is 3 * 333333333333332 + 2.
        self.assertEqual((FAR - 2) % 3, 2)
        third = (FAR - 2) // 3
        self.assertEqual(Board(ONE, rows=[([1, 1], [0, 1, 0])]).torn_by(FAR), [2 * third + 1, 2 + third + 1])

    def test_several_parts_at_once(self):
        board = parts_board(([0, 0], []), ([], [0, 1, 1]), ([0, 1, 0, 0], []), ([0], []))
        self.assertEqual([board.torn_by(many) for many in range(5)],
                         [[0, 0, 0, 0], [1, 1, 0, 0], [1, 1, 1, 1], [2, 2, 1, 1], [2, 2, 1, 2]])
        self.assertEqual(board.torn_by(FAR), [FAR // 2, 2, 1, FAR // 2])

    def test_no_figures(self):
        self.assertEqual(Board(Book([2, 2])).torn_by(FAR), [])

    def test_a_far_count_is_what_sweeping_on_tells(self):
        chance = seeded(33)
        for _ in range(60):
            book = chance_book(chance, pads=4, colours=2, figures=8)
            board = Board(book, rows=chance_rows(chance, book, lead=4, turn=3, rounds=0.8))
            board_rows = board.rows()
            many = chance.randint(0, FAR - 10)
            counts = board.torn_by(many)
            # Behind so many sweeps each pad's row is the one behind the notes that were taken.
            later = []
            for pad, row in enumerate(board_rows):
                gone = sum(times * sum(depth for at, note, depth in shape if at == pad)
                           for times, shape in zip(counts, book.figures()))
                lead, turn = row
                start = max(gone - len(lead), 0)
                later.append((lead[gone:], turn[start % len(turn):] + turn[:start % len(turn)] if turn else turn))
            behind = Board(book, rows=later)
            for more in (1, 7):
                wanted = [one + two for one, two in zip(counts, behind.torn_by(more))]
                self.assertEqual(board.torn_by(many + more), wanted)

    def test_bad_numbers(self):
        ring = Board(ONE, rows=[([], [0, 1])])
        for sweeps in (-1, FAR + 1, HUGE, -HUGE):
            self.refuses(BadNumber, {"number": sweeps}, ring.torn_by, sweeps)
            self.refuses(BadNumber, {"number": sweeps}, ring.torn_by, sweeps, most=0)

    def test_too_far_for_few_sweeps_too(self):
        board = parts_board(([0, 0], []), ([0] * 4, []), ([0, 1, 0, 0], []))
        self.assertEqual(board.torn_by(1, most=4), [1, 1, 0, 0])
        for sweeps in (0, 1, FAR):
            self.refuses(TooFar, {"most": 3}, board.torn_by, sweeps, most=3)
            self.refuses(TooFar, {"most": 2}, board.torn_by, sweeps, most=2)
        ring = Board(ONE, rows=[([], [0, 1])])
        self.assertEqual(ring.torn_by(FAR, most=2), [FAR // 2] * 2)
        self.refuses(TooFar, {"most": 1}, ring.torn_by, 0, most=1)
        self.refuses(TooFar, {"most": -1}, Board(Book([2])).torn_by, 0, most=-1)

    def test_a_new_list(self):
        ring = Board(ONE, rows=[([], [0, 1])])
        ring.torn_by(5).clear()
        self.assertEqual(ring.torn_by(5), [3, 2])


class Settling(Refusing):
    """Which part is named, by settle and by what refuses as settle does."""

    def doors(self, board):
        return board.settle, board.heap, board.torn, board.left

    def test_the_first_part_that_does_not_end(self):
        tied = parts_board(([], [0]), ([], [0]), ([], [0]))
        for door in self.doors(tied):
            self.refuses(NeverClear, {"pad": 0}, door)
            self.refuses(NeverClear, {"pad": 0}, door, most=1)
            self.refuses(TooFar, {"most": 0}, door, most=0)
        second = parts_board(([0, 0], []), ([], [0]), ([0, 1, 0, 0], []))
        for door in self.doors(second):
            self.refuses(NeverClear, {"pad": 1}, door)
            self.refuses(NeverClear, {"pad": 1}, door, most=3)
            # The part of the pads 0 and 2 has its end behind three figures.
            self.refuses(TooFar, {"most": 2}, door, most=2)

    def test_a_part_too_far_stands_ahead_of_one_that_never_ends(self):
        board = parts_board(([0] * 5, []), ([], [0]), ([0] * 5, []))
        for door in self.doors(board):
            self.refuses(TooFar, {"most": 4}, door, most=4)
            self.refuses(NeverClear, {"pad": 1}, door, most=5)
        board = parts_board(([], [0]), ([0] * 5, []), ([], [0]))
        for door in self.doors(board):
            self.refuses(NeverClear, {"pad": 0}, door, most=4)

    def test_the_bound_that_stands(self):
        for door in self.doors(odometer([10, 10, 10, 10, 2])):
            self.refuses(NeverClear, {"pad": 0}, door)
        for door in self.doors(odometer([10, 10, 10, 10, 2], lead=[0])):
            self.refuses(TooFar, {"most": 20000}, door)

    def test_each_order_leads_to_the_same(self):
        chance = seeded(34)
        for _ in range(100):
            book = chance_book(chance, pads=4, colours=2, figures=8)
            board = Board(book, rows=chance_rows(chance, book, lead=9, turn=1, rounds=0))
            sweeps = board.twin().settle()
            heap = board.heap()
            self.assertEqual(heap.layers(), sweeps)
            by_hand = board.twin()
            row = []
            while by_hand.standing():
                row.append(chance.choice(by_hand.standing()))
                by_hand.tear(row[-1])
            self.assertEqual(by_hand.rows(), board.left())
            self.assertEqual(sorted(row), sorted(heap.row()))
            self.assertEqual(type(heap)(book, row), heap)
            self.assertEqual(board.torn_by(FAR), [row.count(figure) for figure in range(len(book))])

    def test_lists_told_are_new(self):
        board = Board(ONE, rows=[([0, 1], [])])
        told = board.twin().settle()
        self.assertEqual(told, [[0], [1]])
        told[0].append(1)
        self.assertEqual(board.settle(), [[0], [1]])


if __name__ == "__main__":
    unittest.main()
