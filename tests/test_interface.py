"""The interface: every name of it, with its arguments, defined where it is listed."""

import ast
import importlib
import inspect
import pathlib
import unittest

PACKAGE = pathlib.Path(__file__).resolve().parent.parent / "tearboard"
VALUES = {
    "books": {"MOST_PADS": 6, "MOST_COLOURS": 4, "MOST_FIGURES": 12, "MOST_DEPTH": 3},
    "rows": {"MOST_LEAD": 400, "MOST_ROUND": 12},
    "heaps": {"MOST_STANDS": 4000},
    "board": {"MOST_WALKED": 20000},
    "counts": {"MOST_TABLE": 4000},
}
FUNCTIONS = {
    "books": ("beside(one, other)", "joined(one, other)", "in_order(book, order)", "without(book, figure)",
              "sinks(points, ties)"),
    "rows": ("least_row(lead, turn)", "note_at(row, depth)", "behind(row, many)"),
    "board": ("laid(book, pairs, *, rows)",),
    "judge": ("run_holds(board, row)", "order_holds(heap, row)", "story_holds(board, pad, story)"),
    "counts": ("clear(book, heights)", "ways_torn(book, taken)", "fillings_torn(book, heights)",
               "clear_weight(book, weights)", "mean(book, weights, figure)"),
    "texts": ("row_text(row)", "read_row(text)", "book_text(book)", "read_book(text)"),
    "pages": ("page(board)", "read_page(text)"),
}
METHODS = {
    ("books", "Book"): (
        "__init__(self, colours, *, figures=())", "colours(self)", "pads(self)", "figures(self)", "shape(self, at)",
        "meet(self, one, other)", "parts(self)", "apart_sets(self)",
    ),
    ("heaps", "Heap"): (
        "__init__(self, book, row=())", "book(self)", "layers(self)", "row(self)", "first(self)", "last(self)",
        "on(self, pad)", "taken(self)", "orders(self, *, most=4000)", "plus(self, other)", "begins(self, other)",
        "less(self, other)", "meet(self, other)", "joined(self, other)", "parted(self, other)",
    ),
    ("board", "Board"): (
        "__init__(self, book, *, rows=None)", "put(self, pad, note)", "write(self, pad, notes)",
        "change(self, pad, depth, note)", "reset(self, pad, lead, *, turn=())", "lay(self, figure, *, beneath=None)",
        "tear(self, figure)", "sweep(self)", "settle(self, *, most=20000)", "do(self, deed)", "all_of(self, deeds)",
        "undo(self)", "redo(self)", "steps(self)", "twin(self)", "book(self)", "rows(self)", "seen(self, pad, depth=0)",
        "height(self, pad)", "standing(self)", "stands(self, figure)", "story(self, pad, *, most=20000)",
        "torn_by(self, sweeps, *, most=20000)", "heap(self, *, most=20000)", "torn(self, *, most=20000)",
        "left(self, *, most=20000)", "kept(self)", "found(self)",
    ),
    ("desk", "Desk"): ("__init__(self, board)", "say(self, line)", "board(self)"),
}
SHOWN = ("__len__", "__eq__", "__str__", "__repr__")
SHOWN_BY = {"Book": SHOWN, "Heap": SHOWN, "Board": SHOWN, "Desk": ("__len__",)}


def module(name):
    return importlib.import_module("tearboard." + name)


def defined(name):
    """The functions and classes that a file defines at its top level."""
    tree = ast.parse((PACKAGE / (name + ".py")).read_text())
    return {node.name: node for node in tree.body if isinstance(node, (ast.FunctionDef, ast.ClassDef))}


class Interface(unittest.TestCase):
    def test_values(self):
        for name, values in VALUES.items():
            for word, worth in values.items():
                self.assertEqual(getattr(module(name), word), worth)

    def test_functions(self):
        for name, listed in FUNCTIONS.items():
            for line in listed:
                word = line.split("(")[0]
                self.assertIn(word, defined(name))
                self.assertEqual(word + str(inspect.signature(getattr(module(name), word))), line)

    def test_methods(self):
        for (name, kind), listed in METHODS.items():
            own = {node.name for node in defined(name)[kind].body if isinstance(node, ast.FunctionDef)}
            held = vars(getattr(module(name), kind))
            for line in listed:
                word = line.split("(")[0]
                self.assertIn(word, own)
                self.assertEqual(word + str(inspect.signature(held[word])), line)
            self.assertLessEqual(set(SHOWN_BY[kind]), own)


if __name__ == "__main__":
    unittest.main()
