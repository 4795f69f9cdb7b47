"""The functions that make books: beside, joined, in_order, without, sinks (point [2])."""

import itertools
import unittest

from refusing import Refusing
from tearboard.books import Book, beside, in_order, joined, sinks, without
from tearboard.errors import BadColours, BadNumber, BadOrder, Meeting, NoFigure, OtherColours, TooMany

HUGE = 10 ** 30 - 1
TWO_PADS = [((0, 1, 2), (1, 0, 1)), ((1, 2, 1),)]
ONE_PAD = [((0, 0, 3),), ((0, 1, 1),)]


def full_book(pads):
    """A book with two figures on each of so many pads."""
    figures = [((pad, note, 1),) for pad in range(pads) for note in range(2)]
    return Book([2] * pads, figures=figures)


class Beside(Refusing):
    def test_pads_and_figures_of_one_then_of_other(self):
        one = Book([2, 3], figures=TWO_PADS)
        other = Book([4], figures=ONE_PAD)
        self.assertEqual(
            beside(one, other),
            Book([2, 3, 4], figures=TWO_PADS + [((2, 0, 3),), ((2, 1, 1),)]),
        )
        self.assertEqual(
            beside(other, one),
            Book([4, 2, 3], figures=ONE_PAD + [((1, 1, 2), (2, 0, 1)), ((2, 2, 1),)]),
        )
        self.assertEqual(beside(other=other, one=one), beside(one, other))
        self.assertIs(type(beside(one, other)), Book)

    def test_handed_books_stay_as_they_were(self):
        one, other = Book([2, 3], figures=TWO_PADS), Book([4], figures=ONE_PAD)
        beside(one, other)
        self.assertEqual(one, Book([2, 3], figures=TWO_PADS))
        self.assertEqual(other, Book([4], figures=ONE_PAD))

    def test_a_book_beside_itself(self):
        book = Book([2, 3], figures=TWO_PADS)
        self.assertEqual(beside(book, book).parts(), [[0, 1], [2, 3]])

    def test_as_many_as_can_be(self):
        self.assertEqual(beside(full_book(3), full_book(3)), full_book(6))
        self.assertEqual(beside(full_book(5), full_book(1)), full_book(6))

    def test_too_many_pads(self):
        self.refuses(BadColours, {"at": -1}, beside, Book([1] * 6), Book([1]))
        self.refuses(BadColours, {"at": -1}, beside, Book([1] * 3), Book([1] * 4))

    def test_too_many_figures(self):
        # Four figures on one pad let few pads have more figures than a book may.
        four = Book([4], figures=[((0, note, 1),) for note in range(4)])
        eight = beside(four, four)
        self.assertEqual(len(beside(eight, four)), 12)
        self.refuses(TooMany, {"most": 12}, beside, eight, eight)
        self.refuses(TooMany, {"most": 12}, beside, beside(eight, four), Book([2], figures=[((0, 0, 1),)]))

    def test_pads_go_ahead_of_figures(self):
        self.refuses(BadColours, {"at": -1}, beside, full_book(6), full_book(6))


class Joined(Refusing):
    def test_figures_of_one_then_those_of_other_that_one_has_not(self):
        one = Book([2, 3], figures=[((0, 0, 1),), ((1, 2, 1),)])
        other = Book([2, 3], figures=[((1, 0, 1),), ((1, 2, 1),), ((0, 1, 3),)])
        told = [((0, 0, 1),), ((1, 2, 1),), ((1, 0, 1),), ((0, 1, 3),)]
        self.assertEqual(joined(one, other), Book([2, 3], figures=told))
        told = [((1, 0, 1),), ((1, 2, 1),), ((0, 1, 3),), ((0, 0, 1),)]
        self.assertEqual(joined(other, one), Book([2, 3], figures=told))
        self.assertEqual(joined(other=other, one=one), joined(one, other))

    def test_handed_books_stay_as_they_were(self):
        one, other = Book([2], figures=ONE_PAD[:1]), Book([2], figures=ONE_PAD[1:])
        joined(one, other)
        self.assertEqual(one, Book([2], figures=ONE_PAD[:1]))
        self.assertEqual(other, Book([2], figures=ONE_PAD[1:]))

    def test_with_itself_and_with_no_figures(self):
        book = Book([2, 3], figures=TWO_PADS)
        for other in (book, Book([2, 3]), Book([2, 3], figures=TWO_PADS[::-1])):
            self.assertEqual(joined(book, other), book)
        self.assertEqual(joined(Book([2, 3]), book), book)

    def test_other_colours(self):
        for colours in ([2, 4], [3, 2], [2], [2, 3, 1]):
            self.refuses(OtherColours, {}, joined, Book([2, 3]), Book(colours))

    def test_too_many(self):
        low = Book([4] * 6, figures=[((pad, 0, 1),) for pad in range(6)])
        high = Book([4] * 6, figures=[((pad, 1, 1),) for pad in range(6)])
        twelve = joined(low, high)
        self.assertEqual(len(twelve), 12)
        self.assertEqual(joined(twelve, high), twelve)
        self.refuses(TooMany, {"most": 12}, joined, twelve, Book([4] * 6, figures=[((0, 2, 1),)]))

    def test_meeting_by_the_places_in_the_joined_book(self):
        one = Book([2, 2], figures=[((0, 0, 1),), ((1, 0, 1),)])
        other = Book([2, 2], figures=[((0, 0, 1),), ((0, 1, 1),), ((1, 0, 2),)])
        self.refuses(Meeting, {"one": 1, "other": 3}, joined, one, other)
        self.refuses(Meeting, {"one": 0, "other": 1}, joined, Book([2], figures=ONE_PAD[:1]),
                     Book([2], figures=[((0, 0, 1),)]))

    def test_which_refusal_goes(self):
        eight = full_book(4)
        shallow = Book([2] * 4, figures=[((pad, note, 2),) for pad in range(4) for note in range(2)])
        self.refuses(TooMany, {"most": 12}, joined, eight, shallow)
        self.refuses(OtherColours, {}, joined, full_book(6), Book([3] * 6, figures=[((0, 0, 2),)]))


class InOrder(Refusing):
    def test_each_pad_in_its_place(self):
        book = Book([2, 3, 4], figures=[((0, 1, 2), (1, 0, 1)), ((1, 2, 1), (2, 3, 3))])
        self.assertEqual(
            in_order(book, [1, 2, 0]),
            Book([4, 2, 3], figures=[((1, 1, 2), (2, 0, 1)), ((0, 3, 3), (2, 2, 1))]),
        )
        self.assertEqual(
            in_order(order=(2, 1, 0), book=book),
            Book([4, 3, 2], figures=[((1, 0, 1), (2, 1, 2)), ((0, 3, 3), (1, 2, 1))]),
        )
        self.assertEqual(in_order(book, [0, 1, 2]), book)

    def test_every_order_and_back(self):
        book = Book([1, 2, 3, 4], figures=[((0, 0, 1), (3, 3, 2)), ((1, 1, 3),), ((2, 2, 1), (3, 0, 1))])
        for order in itertools.permutations(range(4)):
            moved = in_order(book, order)
            for pad in range(4):
                self.assertEqual(moved.colours()[order[pad]], book.colours()[pad])
            for at, shape in enumerate(book.figures()):
                expected = tuple(sorted((order[pad], note, depth) for pad, note, depth in shape))
                self.assertEqual(moved.shape(at), expected)
            back = [order.index(pad) for pad in range(4)]
            self.assertEqual(in_order(moved, back), book)

    def test_what_is_handed_in_stays(self):
        book, order = Book([2, 3], figures=TWO_PADS), [1, 0]
        in_order(book, order)
        self.assertEqual(book, Book([2, 3], figures=TWO_PADS))
        self.assertEqual(order, [1, 0])

    def test_bad_orders(self):
        book = Book([2, 3], figures=TWO_PADS)
        for order in ([], [0], [1], [0, 0], [1, 1], [1, 2], [-1, 0], [-2, -1], [0, 1, 1], [0, 1, 2],
                      [0, HUGE], [-HUGE, 1], [0, 1] * 250):
            self.refuses(BadOrder, {}, in_order, book, order)
            self.refuses(BadOrder, {}, in_order, book, tuple(order))


class Without(Refusing):
    def test_the_book_lacks_the_figure(self):
        figures = [((0, 0, 1),), ((0, 1, 1),), ((1, 0, 2),)]
        book = Book([2, 3], figures=figures)
        self.assertEqual(without(book, 0), Book([2, 3], figures=figures[1:]))
        self.assertEqual(without(book, 1), Book([2, 3], figures=[figures[0], figures[2]]))
        self.assertEqual(without(figure=2, book=book), Book([2, 3], figures=figures[:2]))
        self.assertEqual(book, Book([2, 3], figures=figures))

    def test_the_last_figure(self):
        self.assertEqual(without(Book([2], figures=[((0, 0, 1),)]), 0), Book([2]))

    def test_no_figure(self):
        book = Book([2, 3], figures=TWO_PADS)
        for wrong in (-1, -2, 2, 12, HUGE, -HUGE):
            self.refuses(NoFigure, {"figure": wrong}, without, book, wrong)
        self.refuses(NoFigure, {"figure": 0}, without, Book([2]), 0)


class Sinks(Refusing):
    def test_a_triangle(self):
        told = [((0, 1, 1), (2, 0, 1)), ((0, 0, 1), (1, 1, 1)), ((1, 0, 1), (2, 1, 1))]
        self.assertEqual(sinks(3, [(0, 1), (1, 2), (2, 0)]), Book([2, 2, 2], figures=told))

    def test_one_tie(self):
        self.assertEqual(sinks(2, [(0, 1)]), Book([2], figures=[((0, 1, 1),), ((0, 0, 1),)]))
        self.assertEqual(sinks(2, [(1, 0)]), Book([2], figures=[((0, 0, 1),), ((0, 1, 1),)]))

    def test_points_without_a_tie_have_no_figure(self):
        self.assertEqual(sinks(7, [(5, 2)]), Book([2], figures=[((0, 0, 1),), ((0, 1, 1),)]))

    def test_several_ties_of_the_same_points(self):
        told = [((0, 1, 1), (1, 0, 1)), ((0, 0, 1), (1, 1, 1))]
        self.assertEqual(sinks(2, [(0, 1), (1, 0)]), Book([2, 2], figures=told))

    def test_six_ties_of_seven_points(self):
        ties = [(0, point) for point in range(1, 7)]
        book = sinks(7, ties)
        self.assertEqual(book.colours(), (2,) * 6)
        self.assertEqual(book.shape(0), tuple((pad, 1, 1) for pad in range(6)))
        self.assertEqual(book.figures()[1:], [((pad, 0, 1),) for pad in range(6)])

    def test_kinds_and_names(self):
        ties = [[0, 1], [1, 2]]
        book = sinks(ties=ties, points=3)
        self.assertEqual(book, sinks(3, ((0, 1), (1, 2))))
        self.assertEqual(ties, [[0, 1], [1, 2]])
        ties[0][0] = 2
        self.assertEqual(book, sinks(3, ((0, 1), (1, 2))))

    def test_counts_of_ties(self):
        self.assertEqual(sinks(2, [(0, 1)] * 6).pads(), 6)
        for many in (0, 7, 500):
            self.refuses(BadColours, {"at": -1}, sinks, 2, [(0, 1)] * many)

    def test_counts_of_points(self):
        for points in (0, 8, -1, HUGE, -HUGE):
            for tie in ((0, 1), (3, 1), (-5, 9)):
                self.refuses(BadNumber, {"number": points}, sinks, points, [tie])

    def test_one_point_has_no_tie_of_its_own(self):
        self.refuses(BadNumber, {"number": 0}, sinks, 1, [(0, 0)])
        self.refuses(BadNumber, {"number": 1}, sinks, 1, [(0, 1)])

    def test_numbers_that_are_no_points(self):
        for wrong in (-1, 3, HUGE, -HUGE):
            self.refuses(BadNumber, {"number": wrong}, sinks, 3, [(wrong, 1)])
            self.refuses(BadNumber, {"number": wrong}, sinks, 3, [(0, 1), (1, wrong)])
            self.refuses(BadNumber, {"number": wrong}, sinks, 3, [(wrong, wrong)])
        self.refuses(BadNumber, {"number": 5}, sinks, 3, [(5, 6)])
        self.refuses(BadNumber, {"number": 6}, sinks, 3, [(0, 6), (5, 0)])

    def test_ties_of_a_point_with_itself(self):
        self.refuses(BadNumber, {"number": 2}, sinks, 3, [(0, 1), (2, 2)])
        self.refuses(BadNumber, {"number": 2}, sinks, 3, [(2, 2), (0, 9)])
        self.refuses(BadNumber, {"number": 9}, sinks, 3, [(0, 9), (2, 2)])

    def test_which_refusal_goes(self):
        self.refuses(BadColours, {"at": -1}, sinks, 8, [])
        self.refuses(BadColours, {"at": -1}, sinks, 3, [(9, 9)] * 7)
        self.refuses(BadNumber, {"number": 8}, sinks, 8, [(9, 9)])


if __name__ == "__main__":
    unittest.main()
