"""Rows: least_row, note_at, behind (points [1] and [3], the interface's rows.py)."""

import itertools
import unittest

from model import plain_least, unrolled
from refusing import Refusing
from tearboard import rows
from tearboard.errors import NoNote
from tearboard.rows import behind, least_row, note_at

HUGE = 10 ** 30 - 1


def small_rows():
    """Every lead of at most 4 notes with every round of at most 4, of two notes each."""
    texts = [notes for many in range(5) for notes in itertools.product(range(2), repeat=many)]
    return itertools.product(texts, texts)


class Bounds(unittest.TestCase):
    def test_the_two_bounds(self):
        self.assertEqual((rows.MOST_LEAD, rows.MOST_ROUND), (400, 12))


class LeastRow(unittest.TestCase):
    def test_told_rows(self):
        cases = [
            ([], [], (), ()),
            ([0, 1, 0], [], (0, 1, 0), ()),
            ([], [0], (), (0,)),
            ([], [0, 0, 0], (), (0,)),
            ([0, 0], [0], (), (0,)),
            ([], [0, 1, 0, 1], (), (0, 1)),
            ([], [0, 1, 0], (), (0, 1, 0)),
            ([0, 1, 2], [1, 2, 1, 2], (0,), (1, 2)),
            ([2], [1, 2], (), (2, 1)),
            ([1, 2], [1, 2], (), (1, 2)),
            ([0, 2], [1, 2], (0,), (2, 1)),
            ([1, 0, 2], [1, 2], (1, 0), (2, 1)),
            ([0, 3, 1, 2], [3, 1, 2], (0,), (3, 1, 2)),
            ([1, 2, 0], [0, 1, 2, 0], (), (1, 2, 0, 0)),
            ([2, 1], [1, 2], (2, 1), (1, 2)),
        ]
        for lead, turn, least, around in cases:
            self.assertEqual(least_row(lead, turn), (least, around), (lead, turn))
            self.assertEqual(least_row(tuple(lead), tuple(turn)), (least, around), (lead, turn))

    def test_every_small_row(self):
        for lead, turn in small_rows():
            self.assertEqual(least_row(list(lead), list(turn)), plain_least(lead, turn), (lead, turn))

    def test_a_least_row_stays(self):
        for lead, turn in small_rows():
            told = least_row(lead, turn)
            self.assertEqual(least_row(*told), told)

    def test_long_rows(self):
        self.assertEqual(least_row([0, 1, 2, 3] * 125, []), ((0, 1, 2, 3) * 125, ()))
        self.assertEqual(least_row([0, 1] * 250, [0, 1] * 250), ((), (0, 1)))
        self.assertEqual(least_row([3] + [0, 1] * 249 + [0], [1, 0] * 6), ((3,), (0, 1)))
        self.assertEqual(least_row([1] * 499 + [0], [1] * 500), ((1,) * 499 + (0,), (1,)))
        self.assertEqual(least_row([0] + [1] * 499, [1] * 500), ((0,), (1,)))
        self.assertEqual(least_row([], [0] * 499 + [1]), ((), (0,) * 499 + (1,)))
        self.assertEqual(least_row([0] * 499, [1] + [0] * 499), ((), (0,) * 499 + (1,)))

    def test_tuples_are_told_and_lists_handed_in_stay(self):
        lead, turn = [0, 1, 2], [1, 2, 1, 2]
        told = least_row(turn=turn, lead=lead)
        self.assertEqual([type(part) for part in (told, *told)], [tuple] * 3)
        self.assertEqual((lead, turn), ([0, 1, 2], [1, 2, 1, 2]))
        lead.clear()
        turn.clear()
        self.assertEqual(told, ((0,), (1, 2)))
        bare = least_row([1], [])
        self.assertEqual([type(part) for part in (bare, *bare)], [tuple] * 3)


class NoteAt(Refusing):
    def test_every_small_row(self):
        for lead, turn in small_rows():
            row = least_row(lead, turn)
            for depth, note in enumerate(unrolled(lead, turn, 20)):
                self.assertEqual(note_at(row, depth), note, (row, depth))
                self.assertEqual(note_at((list(lead), list(turn)), depth), note)

    def test_rows_that_end(self):
        for lead in ((), (0,), (3, 1, 2), (0, 1) * 200):
            for depth in (len(lead), len(lead) + 1, HUGE, -1, -2, -len(lead) - 1, -HUGE):
                self.refuses(NoNote, {"depth": depth}, note_at, (lead, ()), depth)

    def test_depths_below_nought_with_a_round(self):
        for depth in (-1, -2, -3, -HUGE):
            self.refuses(NoNote, {"depth": depth}, note_at, ((0, 1), (2, 3)), depth)
            self.refuses(NoNote, {"depth": depth}, note_at, ((), (2, 3)), depth)

    def test_great_depths(self):
        row = ((0, 1), (2, 3, 1))
        self.assertEqual(note_at(row, 2 + 3 * 10 ** 28), 2)
        self.assertEqual(note_at(row, 3 + 3 * 10 ** 28), 3)
        self.assertEqual(note_at(row, 4 + 3 * 10 ** 28), 1)
        self.assertEqual(note_at(((), (2, 3, 1)), HUGE), 2)
        self.assertEqual(note_at(((), (0, 1)), HUGE), 1)

    def test_long_rows(self):
        lead = tuple(depth % 4 for depth in range(400))
        for depth in range(400):
            self.assertEqual(note_at((lead, ()), depth), depth % 4)
        self.assertEqual(note_at((lead + (0,), (1, 2)), 401), 1)
        self.assertEqual(note_at((lead + (0,), (1, 2)), 402), 2)

    def test_names(self):
        self.assertEqual(note_at(depth=1, row=((0, 1), ())), 1)


class Behind(Refusing):
    def test_every_small_row(self):
        for lead, turn in small_rows():
            for many in range(10):
                for row in (least_row(lead, turn), (list(lead), list(turn))):
                    if turn or many <= len(lead):
                        notes = unrolled(lead, turn, many + 40)[many:]
                        told = behind(row, many)
                        self.assertEqual(unrolled(*told, len(notes)), notes, (row, many))
                        self.assertEqual(told, least_row(*told))
                    else:
                        self.refuses(NoNote, {"depth": len(lead)}, behind, row, many)

    def test_told_rows(self):
        row = ((0, 1), (2, 3))
        told = [behind(row, many) for many in range(6)]
        expected = [row, ((1,), (2, 3)), ((), (2, 3)), ((), (3, 2)), ((), (2, 3)), ((), (3, 2))]
        self.assertEqual(told, expected)
        self.assertEqual(behind(((0, 1, 0), ()), 3), ((), ()))
        self.assertEqual(behind(((0, 1, 0), ()), 2), ((0,), ()))
        self.assertEqual(behind(((), ()), 0), ((), ()))

    def test_a_row_handed_in_not_least_is_told_least(self):
        self.assertEqual(behind(([0, 1, 2], [1, 2, 1, 2]), 0), ((0,), (1, 2)))
        self.assertEqual(behind(([0, 1, 2], [1, 2, 1, 2]), 1), ((), (1, 2)))
        self.assertEqual(behind(([0, 1, 2], [1, 2, 1, 2]), 5), ((), (1, 2)))

    def test_fewer_notes(self):
        for lead in ((), (2,), (0, 1, 0), (1,) * 400):
            for many in (len(lead) + 1, len(lead) + 2, HUGE):
                self.refuses(NoNote, {"depth": len(lead)}, behind, (lead, ()), many)

    def test_great_counts(self):
        row = ((0, 1), (2, 3, 1))
        self.assertEqual(behind(row, 2 + 3 * 10 ** 28), ((), (2, 3, 1)))
        self.assertEqual(behind(row, 3 + 3 * 10 ** 28), ((), (3, 1, 2)))
        self.assertEqual(behind(row, 4 + 3 * 10 ** 28), ((), (1, 2, 3)))
        self.assertEqual(behind(((), (0, 1)), HUGE), ((), (1, 0)))

    def test_long_rows(self):
        lead = tuple(depth % 4 for depth in range(400))
        for many in (0, 1, 399, 400):
            self.assertEqual(behind((lead, ()), many), (lead[many:], ()))
        self.assertEqual(behind((lead, (3,)), 398), ((2,), (3,)))

    def test_a_count_below_nought_takes_nothing(self):
        self.assertEqual(behind(((0, 1), ()), -1), ((0, 1), ()))
        self.assertEqual(behind(([0, 2], [1, 2]), -HUGE), ((0,), (2, 1)))

    def test_what_is_handed_in_stays(self):
        row = ([0, 1], [2, 3])
        told = behind(many=3, row=row)
        self.assertEqual([type(part) for part in (told, *told)], [tuple] * 3)
        self.assertEqual(row, ([0, 1], [2, 3]))
        self.assertEqual(behind(row, 3), told)


if __name__ == "__main__":
    unittest.main()
