"""Boards through many deeds of any kind, beside the plain model (points [3] to [5], [9] to [11])."""

import unittest

from model import Model, chance_book, chance_row, chance_rows, seeded, standing, told_of
from tearboard.board import Board
from tearboard.books import Book

BOUNDS = (20000, 20000, 20000, 0, 1, 2, 3, 5, 8, -1)

# Books on whose boards mostly something stands.
DENSE = (
    Book([2, 2, 2], figures=[((0, 0, 1), (1, 0, 2)), ((0, 1, 1),), ((1, 1, 1), (2, 0, 1)), ((2, 1, 1),)]),
    Book([2, 2, 1], figures=[((0, 0, 1), (1, 0, 1)), ((0, 0, 2), (1, 1, 1)), ((0, 1, 1), (1, 0, 2)),
                             ((0, 1, 3), (1, 1, 1)), ((2, 0, 2),)]),
    Book([2, 1, 2, 2], figures=[((0, 0, 1),), ((0, 1, 2),), ((1, 0, 1),), ((2, 0, 1),), ((2, 1, 1), (3, 0, 1)),
                                ((3, 1, 3),)]),
)


def chance_deed(chance, book):
    """A deed of any kind, mostly a good one."""
    pads, figures = book.pads(), len(book)
    pad = chance.randrange(-1, pads + 1) if chance.random() < 0.1 else chance.randrange(pads)
    colours = book.colours()[pad] if 0 <= pad < pads else 2
    note = chance.randrange(-1, colours + 1) if chance.random() < 0.1 else chance.randrange(colours)
    figure = chance.randrange(-1, figures + 1)
    word = chance.choice(("put", "write", "write", "change", "change", "change", "reset", "lay", "tear", "sweep",
                          "settle", "bad"))
    if word == "put":
        return word, pad, note
    if word == "write":
        return word, pad, [chance.randrange(colours) for _ in range(chance.randint(0, 3))] + [note]
    if word == "change":
        return word, pad, chance.randint(-1, 9), note
    if word == "reset":
        return word, pad, *chance_row(chance, colours)
    if word == "lay":
        shape = book.shape(figure) if 0 <= figure < figures else ()
        beneath = [[chance.randrange(book.colours()[at]) for _ in range(depth - 1)] for at, note, depth in shape]
        return word, figure, beneath if chance.random() < 0.9 else beneath[1:]
    if word == "tear":
        return word, figure
    if word == "bad":
        return chance.choice([(), ("put", 0), ("sweep", 1), ("settle", 1), ("tears", 0), ("reset", 0, []), ("",)])
    return (word,)


class AgainstModel(unittest.TestCase):
    def look(self, board, model):
        """What asks for nothing of what is kept is the same."""
        self.assertEqual(board.rows(), model.rows)
        self.assertEqual(board.kept(), len(model.kept))
        self.assertEqual(board.found(), model.found)
        self.assertEqual(board.steps(), (len(model.past), len(model.future)))
        self.assertEqual(board.standing(), standing(model.figures, model.rows))

    def ask(self, chance, board, model):
        most = chance.choice(BOUNDS)
        word = chance.choice(("heap", "torn", "left"))
        told, wanted = told_of(getattr(board, word), most=most), told_of(model.ask, most)
        if wanted[0] == "told":
            layers, pairs, left = wanted[1]
            if word == "heap":
                self.assertEqual(told[1].layers(), layers)
            else:
                self.assertEqual(told, ("told", pairs if word == "torn" else left))
        else:
            self.assertEqual(told, wanted)

    def ask_stories(self, chance, board, model):
        most, pad = chance.choice(BOUNDS), chance.randint(-1, len(board))
        self.assertEqual(told_of(board.story, pad, most=most), told_of(model.story, pad, most))
        sweeps = chance.randint(-1, 12)
        self.assertEqual(told_of(board.torn_by, sweeps, most=most), told_of(model.torn_by, sweeps, most))

    def act(self, chance, board, model):
        """One deed, several, a step back or a step again."""
        kind = chance.random()
        if kind < 0.1:
            self.assertEqual(told_of(board.undo), told_of(model.undo))
        elif kind < 0.2:
            self.assertEqual(told_of(board.redo), told_of(model.redo))
        elif kind < 0.4:
            deeds = [chance_deed(chance, board.book()) for _ in range(chance.randint(0, 3))]
            self.assertEqual(told_of(board.all_of, deeds), told_of(model.do, deeds))
        else:
            deed = chance_deed(chance, board.book())
            self.assertEqual(told_of(board.do, deed), told_of(model.do, [deed]))

    def go_through(self, seed, rounds, books=(None,)):
        chance = seeded(seed)
        book = chance.choice(books) or chance_book(chance)
        rows = chance_rows(chance, book, rounds=rounds)
        board, model = Board(book, rows=rows), Model(book.colours(), book.figures(), rows)
        for _ in range(25):
            self.look(board, model)
            if chance.random() < 0.5:
                self.ask(chance, board, model)
                self.look(board, model)
            if chance.random() < 0.2:
                self.ask_stories(chance, board, model)
                self.look(board, model)
            self.act(chance, board, model)

    def test_many_boards_without_rounds(self):
        for seed in range(150):
            with self.subTest(seed=seed):
                self.go_through(seed, 0)

    def test_many_boards_with_rounds(self):
        for seed in range(1000, 1150):
            with self.subTest(seed=seed):
                self.go_through(seed, 0.4)

    def test_many_boards_of_which_much_is_torn(self):
        for seed in range(2000, 2150):
            with self.subTest(seed=seed):
                self.go_through(seed, 0.1, DENSE)


if __name__ == "__main__":
    unittest.main()
