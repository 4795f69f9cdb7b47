"""Class Book (points [1], [2], [13], the interface's books.py)."""

import itertools
import unittest

from refusing import Refusing
from tearboard import books
from tearboard.books import Book
from tearboard.errors import BadColours, BadFigure, Meeting, NoFigure, TooMany

HUGE = 10 ** 30 - 1
TWO_PADS = [((0, 1, 2), (1, 0, 1)), ((1, 2, 1),)]
# Two figures on each pad: as many as a book can have with none tied to another pad.
TWELVE = [((pad, note, 1),) for pad in range(6) for note in range(2)]


def sample_books():
    """Books of one part and of several, with and without figures, at the bounds."""
    return [
        Book([1]),
        Book([4, 4, 4, 4, 4, 4]),
        Book([2, 3], figures=TWO_PADS),
        Book([2] * 6, figures=TWELVE),
        Book([2, 2, 2], figures=[((0, 0, 1), (2, 0, 1)), ((1, 0, 3),), ((0, 1, 1),)]),
        Book([3, 3, 3, 3], figures=[((0, 0, 1), (1, 0, 1)), ((2, 0, 1), (3, 0, 1)), ((1, 1, 1), (2, 1, 2))]),
        Book([4, 1, 4, 1, 4], figures=[((0, 3, 1), (4, 3, 1)), ((2, 3, 3),), ((0, 2, 1), (4, 2, 1)), ((2, 0, 1),)]),
        Book([2, 2, 2, 2], figures=[((0, 0, 1), (1, 0, 1)), ((1, 1, 1), (2, 0, 1)), ((2, 1, 1), (3, 0, 1))]),
    ]


def has_pads(book, at):
    return {pad for pad, note, depth in book.figures()[at]}


def plain_parts(book):
    """The parts by going from pad to pad as long as something is added."""
    told = []
    for pad in range(book.pads()):
        reached = {pad}
        while True:
            more = set(reached)
            for at in range(len(book)):
                if has_pads(book, at) & reached:
                    more |= has_pads(book, at)
            if more == reached:
                break
            reached = more
        if sorted(reached) not in told:
            told.append(sorted(reached))
    return told


def plain_apart_sets(book):
    """The apart sets by trying every set of figures."""
    told = []
    for many in range(len(book) + 1):
        for some in itertools.combinations(range(len(book)), many):
            pairs = itertools.combinations(some, 2)
            if all(not has_pads(book, one) & has_pads(book, other) for one, other in pairs):
                told.append(some)
    return sorted(told)


class Bounds(unittest.TestCase):
    def test_the_four_bounds(self):
        told = (books.MOST_PADS, books.MOST_COLOURS, books.MOST_FIGURES, books.MOST_DEPTH)
        self.assertEqual(told, (6, 4, 12, 3))


class Telling(Refusing):
    def test_an_ordinary_book(self):
        book = Book([2, 3], figures=TWO_PADS)
        self.assertEqual(book.colours(), (2, 3))
        self.assertIs(type(book.colours()), tuple)
        self.assertEqual(book.pads(), 2)
        self.assertEqual(book.figures(), TWO_PADS)
        self.assertIs(type(book.figures()), list)
        self.assertEqual(len(book), 2)
        self.assertEqual(book.shape(0), ((0, 1, 2), (1, 0, 1)))
        self.assertEqual(book.shape(1), ((1, 2, 1),))

    def test_a_book_without_figures(self):
        for book in (Book([3]), Book([3], figures=[]), Book([3], figures=())):
            self.assertEqual(book.figures(), [])
            self.assertEqual(len(book), 0)
            self.assertEqual(book.apart_sets(), [()])
            self.assertEqual(book.parts(), [[0]])

    def test_figures_of_lists_are_told_as_tuples(self):
        book = Book((2, 3), figures=([(0, 1, 2), (1, 0, 1)], [(1, 2, 1)]))
        self.assertEqual(book.figures(), TWO_PADS)
        for shape in book.figures() + [book.shape(0)]:
            self.assertIs(type(shape), tuple)
            self.assertTrue(all(type(triple) is tuple for triple in shape))

    def test_names_for_what_is_handed_in(self):
        book = Book(figures=TWO_PADS, colours=[2, 3])
        self.assertEqual(book, Book([2, 3], figures=TWO_PADS))
        self.assertEqual(book.shape(at=1), ((1, 2, 1),))
        self.assertTrue(book.meet(other=0, one=1))

    def test_figures_go_by_name_only(self):
        with self.assertRaises(TypeError):
            Book([2, 3], TWO_PADS)

    def test_shape_refuses_numbers_of_no_figure(self):
        book = Book([2, 3], figures=TWO_PADS)
        for at in (-1, -2, 2, 3, HUGE, -HUGE):
            self.refuses(NoFigure, {"figure": at}, book.shape, at)
        self.refuses(NoFigure, {"figure": 0}, Book([2]).shape, 0)

    def test_str(self):
        self.assertEqual(str(Book([2, 3], figures=TWO_PADS)), "2,3 / 0:1*2 1:0 / 1:2")
        self.assertEqual(str(Book([4])), "4")
        self.assertEqual(str(Book([1, 2, 3, 4, 1, 2])), "1,2,3,4,1,2")
        deep = Book([2, 4], figures=[((0, 0, 3),), ((0, 1, 2), (1, 3, 3))])
        self.assertEqual(str(deep), "2,4 / 0:0*3 / 0:1*2 1:3*3")

    def test_repr(self):
        self.assertEqual(repr(Book([2, 3], figures=TWO_PADS)), "Book(2 pads, 2 figures)")
        self.assertEqual(repr(Book([2, 3, 1], figures=TWO_PADS[1:])), "Book(3 pads, 1 figures)")
        self.assertEqual(repr(Book([2])), "Book(1 pads, 0 figures)")

    def test_equal_only_to_a_book_of_the_same(self):
        book = Book([2, 3], figures=TWO_PADS)
        self.assertTrue(book == Book((2, 3), figures=[list(figure) for figure in TWO_PADS]))
        self.assertFalse(book != Book([2, 3], figures=TWO_PADS))
        others = [
            Book([2, 3], figures=TWO_PADS[::-1]), Book([2, 3], figures=TWO_PADS[:1]), Book([2, 3]),
            Book([2, 4], figures=TWO_PADS), Book([3, 3], figures=TWO_PADS), Book([2, 3, 1], figures=TWO_PADS),
            str(book), repr(book), (2, 3), TWO_PADS, None, 2, book.figures(),
        ]
        for other in others:
            self.assertFalse(book == other, other)
            self.assertTrue(book != other, other)

    def test_asked_again_the_same_is_told(self):
        for book in sample_books():
            for ask in (Book.colours, Book.pads, Book.figures, Book.parts, Book.apart_sets, len, str, repr):
                self.assertEqual(ask(book), ask(book))


class Copies(unittest.TestCase):
    def test_lists_handed_in_are_not_changed_and_kept_as_copies(self):
        colours = [2, 3]
        figures = [[(0, 1, 2), (1, 0, 1)], [(1, 2, 1)]]
        book = Book(colours, figures=figures)
        self.assertEqual(colours, [2, 3])
        self.assertEqual(figures, [[(0, 1, 2), (1, 0, 1)], [(1, 2, 1)]])
        colours[0] = 4
        colours.append(1)
        figures[0].pop()
        figures.pop()
        self.assertEqual(book, Book([2, 3], figures=TWO_PADS))
        self.assertEqual(str(book), "2,3 / 0:1*2 1:0 / 1:2")

    def test_a_refused_book_leaves_what_was_handed_in(self):
        colours = [2, 3]
        figures = [[(0, 1, 2)], [(0, 1, 1)], []]
        with self.assertRaises(BadFigure):
            Book(colours, figures=figures)
        self.assertEqual((colours, figures), ([2, 3], [[(0, 1, 2)], [(0, 1, 1)], []]))

    def test_told_lists_are_new_ones(self):
        book = Book([2, 3, 2], figures=TWO_PADS)
        book.figures().clear()
        book.apart_sets().clear()
        parts = book.parts()
        parts[0].clear()
        parts.pop()
        self.assertEqual(book.figures(), TWO_PADS)
        self.assertEqual(book.apart_sets(), [(), (0,), (1,)])
        self.assertEqual(book.parts(), [[0, 1], [2]])
        self.assertEqual(len(book), 2)


class Refused(Refusing):
    def test_counts_of_pads(self):
        for many in (1, 6):
            self.assertEqual(Book([1] * many).pads(), many)
        for many in (0, 7, 8, 500):
            self.refuses(BadColours, {"at": -1}, Book, [1] * many)
            self.refuses(BadColours, {"at": -1}, Book, [0] * many)

    def test_counts_of_colours(self):
        for many in (1, 2, 3, 4):
            self.assertEqual(Book([many, 2]).colours(), (many, 2))
        for many in (0, 5, -1, HUGE, -HUGE):
            self.refuses(BadColours, {"at": 0}, Book, [many])
            self.refuses(BadColours, {"at": 1}, Book, [1, many, 0])
            self.refuses(BadColours, {"at": 5}, Book, [1, 2, 3, 4, 1, many])

    def test_counts_of_figures(self):
        self.assertEqual(len(Book([2] * 6, figures=TWELVE)), 12)
        for many in (13, 14, 500):
            self.refuses(TooMany, {"most": 12}, Book, [2] * 6, figures=(TWELVE * 50)[:many])

    def test_depths(self):
        for depth in (1, 2, 3):
            self.assertEqual(Book([2], figures=[((0, 0, depth),)]).shape(0), ((0, 0, depth),))
        for depth in (0, 4, -1, HUGE, -HUGE):
            self.refuses(BadFigure, {"at": 0}, Book, [2], figures=[((0, 0, depth),)])

    def test_notes(self):
        for many in (1, 2, 3, 4):
            for note in range(many):
                self.assertEqual(Book([4, many], figures=[((1, note, 1),)]).shape(0), ((1, note, 1),))
            for note in (-1, many, 5, HUGE, -HUGE):
                self.refuses(BadFigure, {"at": 0}, Book, [4, many], figures=[((1, note, 1),)])

    def test_pads(self):
        for pad in (0, 1):
            self.assertEqual(Book([2, 2], figures=[((pad, 0, 1),)]).shape(0), ((pad, 0, 1),))
        for pad in (-1, -2, 2, 6, HUGE, -HUGE):
            self.refuses(BadFigure, {"at": 0}, Book, [2, 2], figures=[((pad, 0, 1),)])

    def test_an_empty_figure(self):
        for empty in ((), []):
            self.refuses(BadFigure, {"at": 0}, Book, [2], figures=[empty])
            self.refuses(BadFigure, {"at": 1}, Book, [2], figures=[((0, 0, 1),), empty])

    def test_pads_that_do_not_rise(self):
        wrong = [
            ((1, 0, 1), (0, 0, 1)), ((0, 0, 1), (0, 0, 1)), ((0, 0, 1), (0, 1, 1)),
            ((0, 0, 1), (2, 0, 1), (1, 0, 1)), ((0, 0, 1), (1, 0, 1), (1, 1, 1)),
        ]
        for figure in wrong:
            self.refuses(BadFigure, {"at": 0}, Book, [2, 2, 2], figures=[figure])
        rising = ((0, 0, 1), (2, 0, 1))
        self.assertEqual(Book([2, 2, 2], figures=[rising]).shape(0), rising)

    def test_triples_of_another_length(self):
        for triple in ((), (0,), (0, 0), (0, 0, 1, 1), (0, 0, 1, 0, 0, 1)):
            self.refuses(BadFigure, {"at": 0}, Book, [2, 2], figures=[(triple,)])
            self.refuses(BadFigure, {"at": 1}, Book, [2, 2], figures=[((0, 0, 1),), ((0, 1, 1), triple)])

    def test_the_first_bad_figure_goes(self):
        self.refuses(BadFigure, {"at": 1}, Book, [2], figures=[((0, 0, 1),), ((0, 2, 1),), ()])

    def test_figures_that_meet_and_do_not_bar(self):
        same = ((0, 0, 1),)
        self.refuses(Meeting, {"one": 0, "other": 1}, Book, [2], figures=[same, same])
        self.refuses(Meeting, {"one": 0, "other": 1}, Book, [2], figures=[same, ((0, 0, 2),)])
        wide = ((0, 0, 1), (1, 0, 1))
        self.refuses(Meeting, {"one": 0, "other": 2}, Book, [2, 2], figures=[wide, ((0, 1, 1),), ((1, 0, 1),)])
        self.refuses(Meeting, {"one": 1, "other": 2}, Book, [2, 2], figures=[((0, 1, 1),), ((1, 0, 1),), wide])

    def test_unlike_notes_on_one_common_pad_are_enough(self):
        figures = [((0, 0, 1), (1, 0, 1)), ((0, 0, 2), (1, 1, 1)), ((0, 1, 1), (2, 0, 1))]
        self.assertEqual(Book([2, 2, 2], figures=figures).figures(), figures)

    def test_unlike_notes_on_pads_not_common_are_not_enough(self):
        figures = [((0, 0, 1), (1, 0, 1)), ((1, 0, 1), (2, 1, 1))]
        self.refuses(Meeting, {"one": 0, "other": 1}, Book, [2, 2, 2], figures=figures)

    def test_the_first_two_by_the_lesser_then_by_the_other(self):
        zero, one = ((0, 0, 1),), ((1, 0, 1),)
        self.refuses(Meeting, {"one": 0, "other": 3}, Book, [2, 2], figures=[zero, one, one, zero])
        self.refuses(Meeting, {"one": 0, "other": 2}, Book, [2, 2], figures=[zero, one, zero, zero])
        self.refuses(Meeting, {"one": 1, "other": 2}, Book, [2, 2], figures=[zero, one, one])

    def test_colours_go_ahead_of_all(self):
        self.refuses(BadColours, {"at": -1}, Book, [], figures=TWELVE + [()])
        self.refuses(BadColours, {"at": -1}, Book, [0] * 7, figures=[()])
        self.refuses(BadColours, {"at": 1}, Book, [2, 5, 0], figures=[()] * 13)

    def test_too_many_go_ahead_of_bad_and_meeting(self):
        self.refuses(TooMany, {"most": 12}, Book, [2], figures=[()] * 13)
        self.refuses(TooMany, {"most": 12}, Book, [2], figures=[((0, 0, 1),)] * 13)

    def test_a_bad_figure_goes_ahead_of_meeting(self):
        same = ((0, 0, 1),)
        self.refuses(BadFigure, {"at": 2}, Book, [2], figures=[same, same, ((0, 0, 4),)])


class MeetingAndParts(Refusing):
    def test_meet(self):
        book = Book([2, 2, 2], figures=[((0, 0, 1), (2, 0, 1)), ((1, 0, 1),), ((2, 1, 1),)])
        told = [[book.meet(one, other) for other in range(3)] for one in range(3)]
        self.assertEqual(told, [[True, False, True], [False, True, False], [True, False, True]])
        self.assertIs(book.meet(0, 2), True)
        self.assertIs(book.meet(0, 1), False)

    def test_meet_by_the_pads(self):
        for book in sample_books():
            for one in range(len(book)):
                for other in range(len(book)):
                    common = bool(has_pads(book, one) & has_pads(book, other))
                    self.assertIs(book.meet(one, other), common)

    def test_meet_refuses_the_one_first(self):
        book = Book([2, 3], figures=TWO_PADS)
        for wrong in (-1, 2, HUGE, -HUGE):
            self.refuses(NoFigure, {"figure": wrong}, book.meet, wrong, 0)
            self.refuses(NoFigure, {"figure": wrong}, book.meet, 1, wrong)
            self.refuses(NoFigure, {"figure": wrong}, book.meet, wrong, wrong)
        self.refuses(NoFigure, {"figure": 7}, book.meet, 7, 8)
        self.refuses(NoFigure, {"figure": -8}, book.meet, -8, 7)

    def test_one_part(self):
        self.assertEqual(Book([2, 3], figures=TWO_PADS).parts(), [[0, 1]])
        chain = [((0, 0, 1), (1, 0, 1)), ((2, 0, 1), (3, 0, 1)), ((1, 1, 1), (2, 1, 1))]
        self.assertEqual(Book([2] * 4, figures=chain).parts(), [[0, 1, 2, 3]])

    def test_several_parts_and_pads_that_no_figure_has(self):
        self.assertEqual(Book([2] * 3).parts(), [[0], [1], [2]])
        crossed = [((1, 0, 1), (4, 0, 1)), ((0, 0, 1), (3, 0, 1))]
        self.assertEqual(Book([2] * 6, figures=crossed).parts(), [[0, 3], [1, 4], [2], [5]])
        self.assertEqual(Book([2] * 3, figures=[((2, 0, 1),)]).parts(), [[0], [1], [2]])
        late = [((4, 0, 1), (5, 0, 1)), ((2, 0, 1), (3, 0, 1)), ((0, 0, 1), (5, 1, 1))]
        self.assertEqual(Book([2] * 6, figures=late).parts(), [[0, 4, 5], [1], [2, 3]])
        between = [((0, 0, 1), (4, 0, 1)), ((2, 0, 1), (4, 1, 1))]
        self.assertEqual(Book([2] * 5, figures=between).parts(), [[0, 2, 4], [1], [3]])

    def test_parts_by_going_from_pad_to_pad(self):
        for book in sample_books():
            self.assertEqual(book.parts(), plain_parts(book))
            self.assertTrue(all(type(part) is list for part in book.parts()))

    def test_apart_sets(self):
        book = Book([2, 2, 2], figures=[((0, 0, 1),), ((1, 0, 1),), ((0, 1, 1),), ((2, 0, 1),)])
        told = [
            (), (0,), (0, 1), (0, 1, 3), (0, 3), (1,), (1, 2), (1, 2, 3), (1, 3), (2,), (2, 3), (3,),
        ]
        self.assertEqual(book.apart_sets(), told)

    def test_apart_sets_by_trying_all(self):
        for book in sample_books():
            self.assertEqual(book.apart_sets(), plain_apart_sets(book))
        self.assertEqual(len(Book([2] * 6, figures=TWELVE).apart_sets()), 3 ** 6)


if __name__ == "__main__":
    unittest.main()
