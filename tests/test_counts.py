"""Counts of fillings and ways, and chances by weights (point [12], the interface's counts.py)."""

import collections
import fractions
import itertools
import math
import unittest

from model import chance_book, seeded, standing, torn_off
from refusing import Refusing
from tearboard import counts
from tearboard.books import Book, beside, sinks
from tearboard.counts import clear, clear_weight, fillings_torn, mean, ways_torn
from tearboard.errors import BadHeights, BadWeights, NoFigure, NoMean, TooMany
from tearboard.heaps import Heap

HUGE = 10 ** 30 - 1
EMPTY = Book([3])
PAIR = Book([2, 3], figures=[((0, 1, 2), (1, 0, 1)), ((1, 2, 1),)])
# Twelve figures on six pads, each pad for itself: 729 sets of figures that are apart.
LOOSE = Book([3, 3, 4] * 2, figures=[((pad, note, depth),) for pad in range(6) for note, depth in ((0, 1), (1, 3))])
# Twelve figures on six pads that are one part.
TIED = Book([4] * 6, figures=[tuple((pad, 0, 1) for pad in range(6))]
            + [((pad, note, depth),) for pad in range(6) for note, depth in ((1, 1), (2, 2))][:11])
# Twelve figures of two pads each, in a ring.
RING = Book([4] * 6, figures=[((0, one, 1), (1, two, 2)) for one, two in ((0, 0), (1, 1))]
            + [((1, one, 1), (2, two, 1)) for one, two in ((2, 0), (3, 1))]
            + [((2, one, 3), (3, two, 1)) for one, two in ((2, 0), (3, 1))]
            + [((3, one, 1), (4, two, 1)) for one, two in ((2, 0), (3, 1))]
            + [((4, one, 1), (5, two, 1)) for one, two in ((2, 0), (3, 1))]
            + [((0, one, 2), (5, two, 1)) for one, two in ((2, 2), (3, 3))])


def all_fillings(book, heights):
    """All fillings of these heights, as rows."""
    rows = [itertools.product(range(colours), repeat=height) for colours, height in zip(book.colours(), heights)]
    return [[(lead, ()) for lead in some] for some in itertools.product(*rows)]


def plain_clear(book, heights):
    return sum(not standing(book.figures(), rows) for rows in all_fillings(book, heights))


def plain_torn(book, heights):
    """The dict of fillings_torn, by tearing each filling till it is clear."""
    told = collections.Counter()
    figures = book.figures()
    for rows in all_fillings(book, heights):
        while standing(figures, rows):
            rows = torn_off(figures, rows, standing(figures, rows)[-1])[1]
        told[tuple(height - len(lead) for height, (lead, turn) in zip(heights, rows))] += 1
    return dict(told)


def plain_ways(book, taken):
    """How many rows of pairs take these numbers, by making all heaps one figure at a time."""
    found, waiting = {(): Heap(book)}, [Heap(book)]
    while waiting:
        heap = waiting.pop()
        for figure in range(len(book)):
            other = heap.plus(Heap(book, [figure]))
            fits = all(some <= many for some, many in zip(other.taken(), taken))
            if fits and tuple(other.row()) not in found:
                found[tuple(other.row())] = other
                waiting.append(other)
    ways = 0
    for heap in found.values():
        if heap.taken() == tuple(taken):
            triples = [triple for figure in heap.row() for triple in book.shape(figure)]
            ways += math.prod(book.colours()[pad] ** (depth - 1) for pad, note, depth in triples)
    return ways


def tops_with_weights(book, weights):
    """All notes on top, each with its chance and what stands where the pads have no end."""
    for tops in itertools.product(*[range(colours) for colours in book.colours()]):
        chance = math.prod(fractions.Fraction(some[note], sum(some)) for some, note in zip(weights, tops))
        yield chance, standing(book.figures(), [((), (note,)) for note in tops])


def plain_clear_weight(book, weights):
    return sum((chance for chance, stand in tops_with_weights(book, weights) if not stand), fractions.Fraction(0))


def plain_alone(book, weights, figure):
    told = (chance for chance, stand in tops_with_weights(book, weights) if stand == [figure])
    return sum(told, fractions.Fraction(0))


def pair_of(fraction):
    return fraction.numerator, fraction.denominator


def small_books(seed, many, most):
    """Books with heights of which there are at most so many fillings."""
    chance = seeded(seed)
    told = []
    while len(told) < many:
        book = chance_book(chance, pads=3, colours=3, figures=6)
        heights = [chance.randint(0, 4) for _ in range(book.pads())]
        if math.prod(colours ** height for colours, height in zip(book.colours(), heights)) <= most:
            told.append((book, heights))
    return told


def chance_weights(chance, book):
    """Weights of which some are nought."""
    told = []
    for colours in book.colours():
        some = [chance.choice((0, 1, 2, 3, 7, 10, 999)) for _ in range(colours)]
        told.append(some if sum(some) else [1] * colours)
    return told


class Fillings(Refusing):
    def test_plain_ones(self):
        book = Book([2], figures=[((0, 0, 2),)])
        self.assertEqual([clear(book, [height]) for height in range(7)], [1, 2, 2, 4, 8, 16, 32])
        self.assertEqual([ways_torn(book, [many]) for many in range(7)], [1, 0, 2, 0, 4, 0, 8])
        self.assertEqual(fillings_torn(book, [4]), {(0,): 8, (2,): 4, (4,): 4})
        self.assertEqual(fillings_torn(book, [1]), {(0,): 2})
        self.assertEqual([clear(EMPTY, [height]) for height in range(7)], [3 ** height for height in range(7)])
        self.assertEqual([ways_torn(EMPTY, [many]) for many in range(7)], [1, 0, 0, 0, 0, 0, 0])
        self.assertEqual(fillings_torn(EMPTY, [6]), {(0,): 729})
        self.assertEqual((clear(PAIR, [0, 0]), ways_torn(PAIR, [0, 0])), (1, 1))
        self.assertEqual(fillings_torn(PAIR, [0, 0]), {(0, 0): 1})

    def test_nothing_clear_but_the_empty_pad(self):
        book = Book([2], figures=[((0, 0, 1),), ((0, 1, 1),)])
        self.assertEqual([clear(book, [height]) for height in range(7)], [1, 0, 0, 0, 0, 0, 0])
        self.assertEqual(fillings_torn(book, [6]), {(6,): 64})
        self.assertEqual(ways_torn(book, [6]), 64)

    def test_small_books(self):
        for book, heights in small_books(121, 150, 300):
            with self.subTest(book=str(book), heights=heights):
                torn = plain_torn(book, heights)
                self.assertEqual(clear(book, heights), plain_clear(book, heights))
                self.assertEqual(fillings_torn(book, heights), torn)
                self.assertEqual(ways_torn(book, heights), torn.get(tuple(heights), 0))

    def test_ways_by_all_heaps(self):
        for book, heights in small_books(122, 60, 3 ** 9):
            with self.subTest(book=str(book), heights=heights):
                self.assertEqual(ways_torn(book, heights), plain_ways(book, heights))

    def test_two_pads_as_high_as_can_be(self):
        for figures in ([((0, 0, 1), (1, 0, 1)), ((0, 1, 3),), ((0, 0, 2), (1, 1, 3))], [((0, 1, 2),), ((1, 0, 3),)]):
            book = Book([2, 2], figures=figures)
            self.assertEqual(fillings_torn(book, [6, 6]), plain_torn(book, [6, 6]))
            self.assertEqual(clear(book, [6, 6]), plain_clear(book, [6, 6]))
            for taken in ([6, 6], [6, 5], [4, 6], [0, 6], [6, 0]):
                self.assertEqual(ways_torn(book, taken), plain_ways(book, taken))

    def test_heights_of_nought(self):
        for heights in itertools.product((0, 2), repeat=2):
            self.assertEqual(clear(PAIR, heights), plain_clear(PAIR, heights))
            self.assertEqual(fillings_torn(PAIR, heights), plain_torn(PAIR, heights))
        for book in (LOOSE, TIED, RING):
            self.assertEqual(clear(book, [0] * 6), 1)
            self.assertEqual(fillings_torn(book, [0] * 6), {(0,) * 6: 1})
            self.assertEqual(ways_torn(book, [0] * 6), 1)

    def test_twelve_figures_on_six_pads(self):
        for book in (LOOSE, TIED, RING):
            self.assertEqual((len(book), book.pads()), (12, 6))
            heights = [1] * 6
            self.assertEqual(clear(book, heights), plain_clear(book, heights))
            self.assertEqual(fillings_torn(book, heights), plain_torn(book, heights))
            for heights in ([3, 3, 3, 3, 3, 2], [4, 4, 4, 3, 3, 1], [2, 2, 2, 2, 6, 6]):
                torn = fillings_torn(book, heights)
                fillings = math.prod(colours ** height for colours, height in zip(book.colours(), heights))
                self.assertEqual(sum(torn.values()), fillings)
                self.assertEqual(torn.get((0,) * 6, 0), clear(book, heights))
                self.assertEqual(torn.get(tuple(heights), 0), ways_torn(book, heights))
                self.assertTrue(all(many > 0 for many in torn.values()))
        self.assertEqual(fillings_torn(RING, [1, 2, 0, 1, 1, 2]), plain_torn(RING, [1, 2, 0, 1, 1, 2]))
        self.assertEqual(clear(LOOSE, [6] * 6), math.prod(
            colours ** 6 - 2 * colours ** 5 for colours in LOOSE.colours()))

    def test_books_beside_one_another(self):
        chance = seeded(123)
        for (one, heights), (other, more) in zip(small_books(124, 40, 200), small_books(125, 40, 200)):
            both, all_heights = beside(one, other), heights + more
            self.assertEqual(clear(both, all_heights), clear(one, heights) * clear(other, more))
            weights, others = chance_weights(chance, one), chance_weights(chance, other)
            parts = [fractions.Fraction(*clear_weight(one, weights)), fractions.Fraction(*clear_weight(other, others))]
            self.assertEqual(clear_weight(both, weights + others), pair_of(parts[0] * parts[1]))
            if math.prod(height + 1 for height in all_heights) <= 4000:
                self.assertEqual(ways_torn(both, all_heights), ways_torn(one, heights) * ways_torn(other, more))
                torn, rest = fillings_torn(one, heights), fillings_torn(other, more)
                wanted = {some + few: torn[some] * rest[few] for some in torn for few in rest}
                self.assertEqual(fillings_torn(both, all_heights), wanted)

    def test_sinks(self):
        # Ways to turn the ties so that no point is a sink: none without a ring, two of the eight with one of three.
        self.assertEqual(clear(sinks(4, [(0, 1), (1, 2), (2, 3)]), [1, 1, 1]), 0)
        self.assertEqual(clear(sinks(3, [(0, 1), (1, 2), (2, 0)]), [1, 1, 1]), 2)
        self.assertEqual(clear_weight(sinks(3, [(0, 1), (1, 2), (2, 0)]), [[1, 1]] * 3), (1, 4))


class HeightsRefused(Refusing):
    def test_heights(self):
        for call in (clear, ways_torn, fillings_torn):
            for heights in ([], [1], [1, 1, 1], [1] * 500, [-1], [9] * 3):
                self.refuses(BadHeights, {"at": -1}, call, PAIR, heights)
            for heights, at in (([7, 0], 0), ([0, 7], 1), ([-1, 0], 0), ([6, -1], 1), ([7, 7], 0), ([0, HUGE], 1),
                                ([-HUGE, 9], 0)):
                self.refuses(BadHeights, {"at": at}, call, PAIR, heights)
                self.refuses(BadHeights, {"at": at}, call, PAIR, tuple(heights))
            call(PAIR, [0, 6])
            call(PAIR, [6, 0])

    def test_the_bound_just_met_and_just_passed(self):
        self.assertEqual(counts.MOST_TABLE, 4000)
        met, passed = [4, 4, 4, 3, 3, 1], [6, 5, 5, 3, 3, 0]
        self.assertEqual([math.prod(height + 1 for height in some) for some in (met, passed)], [4000, 4032])
        for call in (ways_torn, fillings_torn):
            for heights in (met, [1, 3, 3, 4, 4, 4], [6, 6, 6, 6, 0, 0], [6, 6, 2, 2, 2, 2]):
                call(LOOSE, heights)
            for heights in (passed, [0, 3, 3, 5, 5, 6], [6] * 6, [6, 6, 6, 6, 1, 0], [3] * 6):
                self.refuses(TooMany, {"most": 4000}, call, LOOSE, heights)
        self.assertEqual(clear(EMPTY, [6]), 729)
        self.assertEqual(clear(Book([1] * 6), [6] * 6), 1)

    def test_heights_go_ahead_of_the_bound(self):
        for call in (ways_torn, fillings_torn):
            self.refuses(BadHeights, {"at": 5}, call, LOOSE, [6, 6, 6, 6, 6, 7])
            self.refuses(BadHeights, {"at": -1}, call, LOOSE, [6] * 7)


class Weights(Refusing):
    def test_plain_ones(self):
        book = Book([2], figures=[((0, 0, 1),)])
        self.assertEqual(clear_weight(book, [[1, 2]]), (2, 3))
        self.assertEqual(clear_weight(book, [[2, 4]]), (2, 3))
        self.assertEqual(clear_weight(book, [[0, 5]]), (1, 1))
        self.assertEqual(clear_weight(book, [[5, 0]]), (0, 1))
        self.assertEqual(clear_weight(book, [[999, 999]]), (1, 2))
        self.assertEqual(clear_weight(EMPTY, [[0, 0, 1]]), (1, 1))
        self.assertEqual([mean(book, [some], 0) for some in ([1, 2], [2, 1], [0, 1], [998, 998], [999, 1])],
                         [(1, 2), (2, 1), (0, 1), (1, 1), (999, 1)])
        # Depths take nothing from the chance: the pads have no end.
        self.assertEqual(mean(Book([2], figures=[((0, 0, 3),)]), [[1, 2]], 0), (1, 2))

    def test_chances_and_means_by_all_tops(self):
        chance = seeded(126)
        books = [chance_book(chance, pads=4, colours=3, figures=8) for _ in range(120)] + [TIED, RING]
        met = set()
        for book in books:
            for _ in range(3 if book.pads() < 6 else 1):
                weights = chance_weights(chance, book)
                whole = plain_clear_weight(book, weights)
                self.assertEqual(clear_weight(book, weights), pair_of(whole), (book, weights))
                for figure in range(len(book)):
                    met.add(whole > 0)
                    if whole == 0:
                        self.refuses(NoMean, {}, mean, book, weights, figure)
                    else:
                        alone = plain_alone(book, weights, figure) / whole
                        self.assertEqual(mean(book, weights, figure), pair_of(alone))
        self.assertEqual(met, {True, False})

    def test_kinds_of_what_is_told(self):
        for told in (clear_weight(PAIR, [[1, 2], [3, 4, 5]]), mean(PAIR, [[1, 2], [3, 4, 5]], 1)):
            self.assertIs(type(told), tuple)
            self.assertEqual([type(number) for number in told], [int, int])

    def test_weights_refused(self):
        calls = [lambda weights: clear_weight(PAIR, weights), lambda weights: mean(PAIR, weights, 0),
                 lambda weights: mean(PAIR, weights, 9)]
        for call in calls:
            for weights in ([], [[1, 1]], [[1, 1], [1, 1, 1], [1]], [[]], [[0, 0]] * 3, [[]] * 500):
                self.refuses(BadWeights, {"at": -1}, call, weights)
            good, better = [1, 0], [0, 0, 999]
            for bad in ([], [1], [1, 1, 1], [0, 0], [1000, 1], [1, -1], [-1, 1], [0, HUGE], [-HUGE, 1], [-1, -1]):
                self.refuses(BadWeights, {"at": 0}, call, [bad, better])
                self.refuses(BadWeights, {"at": 0}, call, [tuple(bad), [0, 0, 0]])
            for bad in ([], [1], [1, 1], [1, 1, 1, 1], [0, 0, 0], [1000, 1, 1], [1, -1, 1], [1, 1, 1000], [1] * 500):
                self.refuses(BadWeights, {"at": 1}, call, [good, bad])

    def test_which_refusal_goes(self):
        full = Book([2], figures=[((0, 0, 1),), ((0, 1, 1),)])
        self.refuses(NoMean, {}, mean, full, [[1, 1]], 1)
        for figure in (-1, 2, HUGE, -HUGE):
            self.refuses(NoFigure, {"figure": figure}, mean, full, [[1, 1]], figure)
            self.refuses(BadWeights, {"at": 0}, mean, full, [[0, 0]], figure)
        self.refuses(NoFigure, {"figure": 0}, mean, EMPTY, [[1, 1, 1]], 0)
        self.assertEqual(clear_weight(full, [[1, 1]]), (0, 1))


class HandedIn(Refusing):
    def test_nothing_is_changed_and_all_goes_by_name(self):
        heights, weights = [2, 3], [[1, 2], [3, 0, 5]]
        for kind in (list, tuple):
            some, drawn = kind(heights), kind(kind(few) for few in weights)
            self.assertEqual(clear(heights=some, book=PAIR), clear(PAIR, heights))
            self.assertEqual(ways_torn(taken=some, book=PAIR), ways_torn(PAIR, heights))
            self.assertEqual(fillings_torn(heights=some, book=PAIR), fillings_torn(PAIR, heights))
            self.assertEqual(clear_weight(weights=drawn, book=PAIR), clear_weight(PAIR, weights))
            self.assertEqual(mean(figure=1, weights=drawn, book=PAIR), mean(PAIR, weights, 1))
        self.assertEqual((heights, weights), ([2, 3], [[1, 2], [3, 0, 5]]))

    def test_each_dict_is_a_new_one(self):
        told = fillings_torn(PAIR, [2, 2])
        told.clear()
        self.assertEqual(fillings_torn(PAIR, [2, 2]), plain_torn(PAIR, [2, 2]))


if __name__ == "__main__":
    unittest.main()
