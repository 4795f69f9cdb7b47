"""Heaps: points [6] and [7], and the interface's heaps.py."""

import itertools
import math
import unittest

from model import chance_book, meeting, pads_of, rows_of_heap, seeded
from refusing import Refusing
from tearboard import heaps
from tearboard.books import Book
from tearboard.errors import Barred, NoBeginning, NoFigure, NoPad, OtherBook, TooMany
from tearboard.heaps import Heap

HUGE = 10 ** 30 - 1
# On pad 0 lie the figures 0 and 1, on pad 1 the figures 1 and 2, on pad 2 the figures 2 and 3.
CHAIN = Book([2, 2, 2], figures=[((0, 0, 2),), ((0, 1, 1), (1, 0, 3)), ((1, 1, 1), (2, 0, 2)), ((2, 1, 1),)])
APART = Book([1, 1, 1], figures=[((0, 0, 1),), ((1, 0, 1),), ((2, 0, 1),)])
SMALL = Book([2, 2], figures=[((0, 0, 1),), ((0, 1, 1), (1, 0, 2)), ((1, 1, 1),)])
EMPTY = Book([1])


def plain_layers(book, row):
    """Layers by who waits for whom, one layer at a time."""
    rest, layers = list(enumerate(row)), []
    while rest:
        free = [(at, figure) for at, figure in rest
                if not any(early < at and meeting(book, other, figure) for early, other in rest)]
        layers.append(sorted(figure for at, figure in free))
        rest = [item for item in rest if item not in free]
    return layers


def beginnings(book, row):
    """Each beginning of a heap, told by the least of its rows."""
    return {min(rows_of_heap(book, some[:many])) for some in rows_of_heap(book, row) for many in range(len(some) + 1)}


def chance_heaps(seed, many, length):
    """Triples of a book and two rows of its figures, often with a common beginning."""
    chance = seeded(seed)
    told = []
    while len(told) < many:
        book = chance_book(chance, pads=4, colours=3, figures=5)
        if len(book):
            common = [chance.randrange(len(book)) for _ in range(chance.randint(0, 3))]
            rows = [common + [chance.randrange(len(book)) for _ in range(chance.randint(0, length))] for _ in "ab"]
            told.append((book, *rows))
    return told


class Making(Refusing):
    def test_the_bound(self):
        self.assertEqual(heaps.MOST_STANDS, 4000)

    def test_no_figure_is_the_first_one(self):
        for bad in (-1, 4, 5, HUGE, -HUGE):
            self.refuses(NoFigure, {"figure": bad}, Heap, CHAIN, [0, 3, bad, 7, -2])
        self.refuses(NoFigure, {"figure": 0}, Heap, EMPTY, [0])

    def test_a_row_handed_in_stays_and_is_copied(self):
        row = [3, 0, 1]
        heap = Heap(row=row, book=CHAIN)
        self.assertEqual(row, [3, 0, 1])
        row.clear()
        self.assertEqual(heap.layers(), [[0, 3], [1]])
        self.assertEqual(heap, Heap(CHAIN, (3, 0, 1)))

    def test_book(self):
        self.assertEqual(Heap(CHAIN, [1]).book(), CHAIN)

    def test_lists_told_are_new(self):
        heap = Heap(CHAIN, [0, 3, 1, 2])
        for ask in (heap.layers, heap.row, heap.first, heap.last, lambda: heap.on(0)):
            told = ask()
            wanted = ask()
            for item in told:
                if isinstance(item, list):
                    item.append(9)
            told.append(9)
            self.assertEqual(ask(), wanted)

    def test_the_empty_heap(self):
        for book in (CHAIN, EMPTY):
            heap = Heap(book)
            self.assertEqual((heap.layers(), heap.row(), heap.first(), heap.last(), heap.on(0)), ([], [], [], [], []))
            self.assertEqual((heap.taken(), heap.orders(), len(heap)), ((0,) * book.pads(), 1, 0))
            self.assertEqual((str(heap), repr(heap)), ("", "Heap(0 figures, 0 layers)"))
            self.assertEqual(heap, Heap(book, []))
            self.assertEqual(heap.plus(heap), heap)
            self.assertIs(heap.begins(heap), True)
            self.assertEqual((heap.less(heap), heap.meet(heap), heap.joined(heap)), (heap, heap, heap))
            self.assertIsNone(heap.parted(heap))


class Asking(Refusing):
    def test_layers_row_first_last(self):
        heap = Heap(CHAIN, [3, 0, 1, 0, 3, 2])
        self.assertEqual(heap.layers(), [[0, 3], [1, 3], [0, 2]])
        self.assertEqual(heap.row(), [0, 3, 1, 3, 0, 2])
        self.assertEqual((heap.first(), heap.last()), ([0, 3], [0, 2]))
        self.assertEqual((str(heap), repr(heap)), ("0 3; 1 3; 0 2", "Heap(6 figures, 3 layers)"))
        self.assertEqual(repr(Heap(CHAIN, [1])), "Heap(1 figures, 1 layers)")
        self.assertEqual(len(heap), 6)

    def test_a_layer_waits_for_the_one_ahead(self):
        # The second 3 waits only for the first one, so it lies in the second layer though others are deeper.
        self.assertEqual(Heap(CHAIN, [0, 0, 0, 3, 3]).layers(), [[0, 3], [0, 3], [0]])
        self.assertEqual(Heap(CHAIN, [2, 1, 0, 3]).layers(), [[2], [1, 3], [0]])

    def test_last_lies_in_any_layer(self):
        self.assertEqual(Heap(CHAIN, [3, 0, 0, 0]).last(), [0, 3])
        self.assertEqual(Heap(CHAIN, [2, 1, 0]).last(), [0])
        self.assertEqual(Heap(CHAIN, [0, 2, 1]).last(), [1])

    def test_on_and_taken(self):
        heap = Heap(CHAIN, [3, 0, 1, 0, 3, 2])
        self.assertEqual([heap.on(pad) for pad in range(3)], [[0, 1, 0], [1, 2], [3, 3, 2]])
        self.assertEqual(heap.on(pad=0), [0, 1, 0])
        self.assertEqual(heap.taken(), (5, 4, 4))
        self.assertIs(type(heap.taken()), tuple)
        for pad in (-1, 3, HUGE, -HUGE):
            self.refuses(NoPad, {"pad": pad}, heap.on, pad)

    def test_many_heaps(self):
        for book, row, other in chance_heaps(1, 150, 6):
            heap = Heap(book, row)
            layers = plain_layers(book, row)
            self.assertEqual(heap.layers(), layers)
            self.assertEqual(heap.row(), [figure for layer in layers for figure in layer])
            self.assertEqual(heap.first(), layers[0] if layers else [])
            waited = [figure for at, figure in enumerate(row)
                      if not any(meeting(book, figure, later) for later in row[at + 1:])]
            self.assertEqual(heap.last(), sorted(waited))
            for pad in range(book.pads()):
                self.assertEqual(heap.on(pad), [figure for figure in row if pad in pads_of(book.shape(figure))])
            self.assertEqual(len(heap), len(row))
            self.assertEqual(str(heap), "; ".join(" ".join(map(str, layer)) for layer in layers))
            self.assertEqual(repr(heap), f"Heap({len(row)} figures, {len(layers)} layers)")


class Equal(unittest.TestCase):
    def test_rows_that_exchange_neighbours_are_one_heap(self):
        for book, row, other in chance_heaps(2, 60, 4):
            rows = rows_of_heap(book, row)
            for some in rows:
                self.assertEqual(Heap(book, some), Heap(book, row))
            self.assertEqual(Heap(book, other) == Heap(book, row), tuple(other) in rows)
            self.assertEqual(Heap(book, other) != Heap(book, row), tuple(other) not in rows)

    def test_books(self):
        again = Book([1, 1, 1], figures=APART.figures())
        self.assertEqual(Heap(APART, [0, 1]), Heap(again, [1, 0]))
        self.assertNotEqual(Heap(APART, [0]), Heap(CHAIN, [0]))
        self.assertNotEqual(Heap(APART), Heap(CHAIN))
        # The same layers, and yet another book.
        self.assertNotEqual(Heap(APART, [0]), Heap(Book([1, 1, 1], figures=APART.figures()[:2]), [0]))

    def test_nothing_else(self):
        heap = Heap(APART, [0, 1])
        for other in ([0, 1], ((0, 1),), "0 1", None, 2, APART):
            self.assertFalse(heap == other)
            self.assertTrue(heap != other)


class Orders(Refusing):
    def test_many_heaps(self):
        for book, row, other in chance_heaps(3, 80, 4):
            self.assertEqual(Heap(book, row).orders(most=10 ** 29), len(rows_of_heap(book, row)), (str(book), row))

    def test_the_bound_just_met_and_just_passed(self):
        for book, row, bound in ((APART, [0, 0, 1, 2, 2, 2], 3 * 2 * 4), (CHAIN, [0, 1, 2, 3], 3 * 3 * 3)):
            heap = Heap(book, row)
            wanted = len(rows_of_heap(book, row))
            self.assertEqual(heap.orders(most=bound), wanted)
            self.assertEqual(heap.orders(most=HUGE), wanted)
            for most in (bound - 1, 0, -1, -HUGE):
                self.refuses(TooMany, {"most": most}, heap.orders, most=most)
        self.refuses(TooMany, {"most": 0}, Heap(APART).orders, most=0)
        self.assertEqual(Heap(APART).orders(most=1), 1)

    def test_the_bound_that_stands(self):
        # 40 * 100 is 4000, 41 * 98 is 4018.
        self.assertEqual(Heap(APART, [0] * 39 + [1] * 99).orders(), math.comb(138, 39))
        self.refuses(TooMany, {"most": 4000}, Heap(APART, [0] * 40 + [1] * 97).orders)
        self.assertEqual(Heap(APART, [0] * 500).orders(), 1)

    def test_some_hundred_figures(self):
        self.assertEqual(Heap(APART, [0, 1] * 250).orders(most=251 * 251), math.comb(500, 250))
        self.refuses(TooMany, {"most": 251 * 251 - 1}, Heap(APART, [0, 1] * 250).orders, most=251 * 251 - 1)
        thirds = math.factorial(498) // math.factorial(166) ** 3
        self.assertEqual(Heap(APART, [0, 1, 2] * 166).orders(most=167 ** 3), thirds)
        # Nothing is apart from figure 1, so the other two can be exchanged only between two of them.
        book = Book([2, 2], figures=[((0, 0, 1),), ((0, 1, 1), (1, 1, 1)), ((1, 0, 1),)])
        row = [0, 2, 1] * 160
        self.assertEqual(Heap(book, row).orders(most=321 ** 2), 2 ** 160)
        self.refuses(TooMany, {"most": 321 ** 2 - 1}, Heap(book, row).orders, most=321 ** 2 - 1)
        self.assertEqual(Heap(CHAIN, [1, 2] * 250).orders(most=HUGE), 1)

    def test_a_number_that_is_no_product(self):
        heap = Heap(SMALL, [0, 0, 2, 2, 1, 0, 2])
        self.assertEqual(heap.orders(), math.comb(4, 2) * 2)


class Plus(Refusing):
    def test_plus(self):
        self.assertEqual(Heap(CHAIN, [0, 2]).plus(Heap(CHAIN, [3, 1])), Heap(CHAIN, [0, 2, 3, 1]))
        self.assertEqual(Heap(CHAIN, [3]).plus(other=Heap(CHAIN, [0])).layers(), [[0, 3]])
        for book, row, other in chance_heaps(4, 50, 5):
            one, two = Heap(book, row), Heap(book, other)
            self.assertEqual(one.plus(two), Heap(book, row + other))
            self.assertEqual((one, two), (Heap(book, row), Heap(book, other)))
            self.assertEqual(one.plus(Heap(book)), one)
            self.assertEqual(Heap(book).plus(one), one)


class Beginnings(Refusing):
    def test_begins(self):
        heap = Heap(CHAIN, [0, 3, 1])
        for row in ([], [0], [3], [0, 3], [3, 0], [0, 1], [0, 1, 3]):
            self.assertIs(Heap(CHAIN, row).begins(heap), True, row)
        for row in ([1], [2], [3, 1], [0, 0], [1, 0], [0, 3, 1, 0], [0, 3, 3]):
            self.assertIs(Heap(CHAIN, row).begins(other=heap), False, row)

    def test_begins_less_and_meet_of_many_heaps(self):
        for book, row, other in chance_heaps(5, 120, 4):
            one, two = Heap(book, row), Heap(book, other)
            mine, theirs = beginnings(book, row), beginnings(book, other)
            self.assertEqual(one.begins(two), min(rows_of_heap(book, row)) in theirs)
            self.assertEqual(two.begins(one), min(rows_of_heap(book, other)) in mine)
            common = max(mine & theirs, key=len)
            self.assertEqual(one.meet(two), Heap(book, common))
            self.assertEqual(two.meet(one), Heap(book, common))
            for some in mine:
                part = Heap(book, some)
                self.assertEqual(part.plus(one.less(part)), one)
                self.assertEqual(part.meet(one), part)
            if min(rows_of_heap(book, other)) in mine:
                self.assertEqual(two.plus(one.less(two)), one)
            else:
                self.refuses(NoBeginning, {}, one.less, two)

    def test_less(self):
        heap = Heap(CHAIN, [0, 3, 1, 0])
        self.assertEqual(heap.less(Heap(CHAIN, [3])), Heap(CHAIN, [0, 1, 0]))
        self.assertEqual(heap.less(other=Heap(CHAIN, [0, 1])), Heap(CHAIN, [3, 0]))
        self.assertEqual(heap.less(heap), Heap(CHAIN))
        self.refuses(NoBeginning, {}, heap.less, Heap(CHAIN, [1]))
        self.refuses(NoBeginning, {}, heap.less, Heap(CHAIN, [0, 3, 1, 0, 0]))
        self.assertEqual(heap, Heap(CHAIN, [0, 3, 1, 0]))

    def test_meet(self):
        self.assertEqual(Heap(CHAIN, [0, 3, 1]).meet(Heap(CHAIN, [3, 3, 0, 0])), Heap(CHAIN, [0, 3]))
        self.assertEqual(Heap(CHAIN, [0, 3]).meet(other=Heap(CHAIN, [1, 3])), Heap(CHAIN, [3]))
        self.assertEqual(Heap(CHAIN, [0]).meet(Heap(CHAIN, [1])), Heap(CHAIN))
        # The second 1 is next on pad 0 in both, but in one of them it waits for a 2 on pad 1.
        self.assertEqual(Heap(CHAIN, [1, 1]).meet(Heap(CHAIN, [1, 2, 1])), Heap(CHAIN, [1]))

    def test_long_heaps(self):
        one, two = Heap(CHAIN, [0, 1, 2] * 160), Heap(CHAIN, [0, 1, 2] * 159 + [0, 2, 1])
        self.assertEqual(one.meet(two), Heap(CHAIN, [0, 1, 2] * 159 + [0]))
        self.refuses(Barred, {"pad": 0}, one.joined, two)
        self.assertEqual(one.parted(two), (1, 318))
        self.assertEqual(one.plus(two).less(one), two)


class Joined(Refusing):
    def test_joined(self):
        self.assertEqual(Heap(CHAIN, [0, 1]).joined(Heap(CHAIN, [3, 3, 0])), Heap(CHAIN, [0, 1, 3, 3]))
        self.assertEqual(Heap(CHAIN, [0]).joined(other=Heap(CHAIN, [0, 0])), Heap(CHAIN, [0, 0]))
        self.refuses(Barred, {"pad": 0}, Heap(CHAIN, [0]).joined, Heap(CHAIN, [1]))
        self.refuses(Barred, {"pad": 1}, Heap(CHAIN, [1, 3]).joined, Heap(CHAIN, [2, 2]))
        self.refuses(Barred, {"pad": 2}, Heap(CHAIN, [0, 3]).joined, Heap(CHAIN, [2, 0]))

    def test_the_least_pad_need_not_be_where_they_part(self):
        # Behind [0] their first figures are 1 and 2, which part on pad 1; the other one's second 0 has pad 0, too.
        self.refuses(Barred, {"pad": 0}, Heap(CHAIN, [0, 1]).joined, Heap(CHAIN, [0, 2, 0]))

    def test_many_heaps(self):
        for book, row, other in chance_heaps(6, 120, 5):
            one, two = Heap(book, row), Heap(book, other)
            common = one.meet(two)
            mine, theirs = one.less(common).taken(), two.less(common).taken()
            pads = [pad for pad in range(book.pads()) if mine[pad] and theirs[pad]]
            if pads:
                self.refuses(Barred, {"pad": pads[0]}, one.joined, two)
                self.refuses(Barred, {"pad": pads[0]}, two.joined, one)
            else:
                told = one.joined(two)
                self.assertEqual(told, two.joined(one))
                self.assertTrue(one.begins(told) and two.begins(told))
                self.assertEqual(len(told), len(one) + len(two) - len(common))

    def test_just_what_has_a_common_heap_is_joined(self):
        rows = [row for many in range(4) for row in itertools.product(range(3), repeat=many)]
        tops = [Heap(SMALL, row) for row in itertools.product(range(3), repeat=5)]
        for one, two in itertools.product([Heap(SMALL, row) for row in rows if len(row) < 3], repeat=2):
            common = [top for top in tops if one.begins(top) and two.begins(top)]
            if common:
                told = one.joined(two)
                self.assertTrue(all(told.begins(top) for top in common))
            else:
                with self.assertRaises(Barred):
                    one.joined(two)


class Parted(unittest.TestCase):
    def test_parted(self):
        heap = Heap(CHAIN, [0, 1, 0, 3])
        self.assertIsNone(heap.parted(Heap(CHAIN, [3, 0, 1, 0])))
        self.assertEqual(heap.parted(Heap(CHAIN, [0, 1, 1, 3])), (0, 2))
        self.assertEqual(heap.parted(Heap(CHAIN, [0, 1, 3])), (0, 2))
        self.assertEqual(heap.parted(Heap(CHAIN, [])), (0, 0))
        self.assertEqual(Heap(CHAIN).parted(other=heap), (0, 0))
        self.assertEqual(heap.parted(Heap(CHAIN, [0, 1, 0, 2])), (1, 1))
        self.assertEqual(heap.parted(Heap(CHAIN, [0, 1, 0, 3, 3])), (2, 1))
        self.assertEqual(heap.parted(Heap(CHAIN, [1, 0, 3])), (0, 0))
        self.assertEqual(Heap(CHAIN, [1, 2]).parted(Heap(CHAIN, [2, 1])), (1, 0))

    def test_many_heaps(self):
        for book, row, other in chance_heaps(7, 100, 5):
            one, two = Heap(book, row), Heap(book, other)
            told = one.parted(two)
            self.assertEqual(told, two.parted(one))
            self.assertEqual(told is None, one == two)
            if told is not None:
                pad, place = told
                self.assertEqual([one.on(at) for at in range(pad)], [two.on(at) for at in range(pad)])
                self.assertEqual(one.on(pad)[:place], two.on(pad)[:place])
                self.assertNotEqual(one.on(pad)[place:place + 1], two.on(pad)[place:place + 1])


class OtherBooks(Refusing):
    def test_all_six_doors(self):
        others = [Book([2, 2, 2], figures=CHAIN.figures()[:3]), Book([2, 2, 3], figures=CHAIN.figures()), APART]
        heap = Heap(CHAIN, [0, 1, 2])
        for book in others:
            # Empty ones, ones that are no beginning and ones that are barred: it goes ahead of all else.
            for row in ([], [1], [2, 2], [0, 1, 2]):
                other = Heap(book, row)
                for door in (heap.plus, heap.begins, heap.less, heap.meet, heap.joined, heap.parted):
                    self.refuses(OtherBook, {}, door, other)
                for door in (other.plus, other.begins, other.less, other.meet, other.joined, other.parted):
                    self.refuses(OtherBook, {}, door, heap)

    def test_an_equal_book_is_no_other_one(self):
        heap, other = Heap(CHAIN, [0, 1]), Heap(Book([2, 2, 2], figures=CHAIN.figures()), [0])
        self.assertEqual(heap.plus(other).row(), [0, 1, 0])
        self.assertTrue(other.begins(heap))
        self.assertEqual(heap.less(other).row(), [1])
        self.assertEqual(heap.meet(other), other)
        self.assertEqual(heap.joined(other), heap)
        self.assertEqual(heap.parted(other), (0, 1))


if __name__ == "__main__":
    unittest.main()
