"""Tables at their bound and books of many figures, beside plain reckonings (points [2] and [12])."""

import fractions
import itertools
import math
import unittest

from model import chance_book, seeded
from refusing import Refusing
from tearboard.books import Book
from tearboard.counts import clear, clear_weight, fillings_torn, mean, ways_torn
from tearboard.errors import NoMean
from tearboard.tables import code_of, numbers_of
from test_counts import RING, TIED, chance_weights, plain_torn

# The numbers of a table that has just 4000 places.
AT_THE_BOUND = [4, 4, 4, 3, 3, 1]


def plus(some, others):
    return tuple(one + other for one, other in zip(some, others))


def taken_by(book, figures):
    told = [0] * book.pads()
    for figure in figures:
        for pad, note, depth in book.shape(figure):
            told[pad] += depth
    return tuple(told)


def signed_sets(book):
    """Pairs of what each set of figures apart takes, and in how many ways, less than nought for an odd size."""
    told = []
    for some in book.apart_sets():
        taken = taken_by(book, some)
        beneath = math.prod(colours ** max(many - 1, 0) for colours, many in zip(book.colours(), taken))
        told.append((taken, (-1) ** len(some) * beneath))
    return told


def torn_by_sets(book, heights):
    """The dict of fillings_torn by the signed sets: what they give is multiplied by all heaps, and by all fillings."""
    terms = signed_sets(book)
    places = list(itertools.product(*[range(height + 1) for height in heights]))
    ways, clears = dict.fromkeys(places, 0), dict.fromkeys(places, 0)
    ways[(0,) * len(heights)] = 1
    for place in places:
        fillings = math.prod(colours ** many for colours, many in zip(book.colours(), place))
        for taken, many in terms:
            later = plus(place, taken)
            if later in clears:
                clears[later] += many * fillings
                if any(taken):
                    ways[later] -= many * ways[place]
    rest = {place: tuple(height - many for height, many in zip(heights, place)) for place in places}
    return {place: ways[place] * clears[rest[place]] for place in places if ways[place] * clears[rest[place]]}, ways


def one_colour_book(chance):
    """A book of six pads of one colour: figures that have no pad in common, three at most."""
    pads = list(range(6))
    chance.shuffle(pads)
    cuts = sorted(chance.sample(range(7), chance.randint(1, 4)))
    groups = [sorted(pads[one:other]) for one, other in zip(cuts, cuts[1:])]
    return Book([1] * 6, figures=[tuple((pad, 0, chance.choice((1, 1, 2, 3))) for pad in some) for some in groups])


def two_on_each_pad(chance):
    """A book of twelve figures of one note, two on each of six pads of four colours."""
    notes = [chance.sample(range(4), 2) for _ in range(6)]
    figures = [((pad, note, chance.choice((1, 1, 2, 3))),) for pad in range(6) for note in notes[pad]]
    chance.shuffle(figures)
    return Book([4] * 6, figures=figures)


class AtTheBound(Refusing):
    def test_one_colour(self):
        chance = seeded(201)
        met = set()
        for _ in range(300):
            book = one_colour_book(chance)
            numbers = chance.sample(AT_THE_BOUND, 6)
            torn = [0] * 6
            for shape in book.figures():
                times = min(numbers[pad] // depth for pad, note, depth in shape)
                for pad, note, depth in shape:
                    torn[pad] = times * depth
            met.add(len(book))
            self.assertEqual(fillings_torn(book, numbers), {tuple(torn): 1}, (book, numbers))
            self.assertEqual(ways_torn(book, numbers), int(torn == numbers))
            self.assertEqual(ways_torn(book, torn), 1)
        self.assertEqual(met, {0, 1, 2, 3})

    def test_all_that_is_taken_by_one_figure(self):
        book = Book([1] * 6, figures=[tuple((pad, 0, depth) for pad, depth in enumerate((2, 2, 2, 1, 1, 1)))])
        self.assertEqual(ways_torn(book, [4, 4, 4, 2, 2, 2]), 1)
        self.assertEqual(ways_torn(book, [4, 4, 4, 2, 2, 1]), 0)
        self.assertEqual(fillings_torn(book, [4, 4, 4, 3, 3, 1]), {(2, 2, 2, 1, 1, 1): 1})

    def test_parts_that_lie_between_one_another(self):
        book = Book([2, 2, 2, 1], figures=[((0, 0, 1), (2, 0, 1)), ((1, 1, 2), (3, 0, 1)), ((0, 1, 2),), ((1, 0, 3),)])
        self.assertEqual(book.parts(), [[0, 2], [1, 3]])
        for heights in ([3, 3, 3, 3], [2, 4, 2, 1], [0, 5, 4, 2], [4, 0, 0, 6], [1, 6, 1, 6]):
            torn = plain_torn(book, heights)
            self.assertEqual(fillings_torn(book, heights), torn)
            self.assertEqual(ways_torn(book, heights), torn.get(tuple(heights), 0))

    def test_tied_books_by_signed_sets(self):
        chance = seeded(202)
        cases = [(TIED, [2, 2, 2, 2, 1, 1]), (TIED, [1, 0, 3, 2, 2, 1]), (RING, [2] * 6), (RING, [3, 3, 3, 1, 1, 2])]
        while len(cases) < 60:
            book = chance_book(chance, pads=6, colours=4, figures=12)
            heights = [chance.randint(0, 6) for _ in range(book.pads())]
            if len(book) > 4 and math.prod(height + 1 for height in heights) <= 300:
                cases.append((book, heights))
        for book, heights in cases:
            with self.subTest(book=str(book), heights=heights):
                torn, ways = torn_by_sets(book, heights)
                self.assertEqual(fillings_torn(book, heights), torn)
                self.assertEqual(ways_torn(book, heights), ways[tuple(heights)])
                self.assertEqual(clear(book, heights), torn.get((0,) * book.pads(), 0))
                for taken in chance.sample(sorted(ways), min(5, len(ways))):
                    self.assertEqual(ways_torn(book, taken), ways[taken])

    def test_keys_rise_and_are_plain_tuples(self):
        for book in (TIED, RING, Book([2, 2, 2], figures=[((0, 0, 1), (2, 0, 1)), ((1, 0, 1),)])):
            told = fillings_torn(book, [2] * book.pads())
            self.assertEqual(list(told), sorted(told))
            self.assertEqual({type(key) for key in told}, {tuple})
            self.assertEqual({len(key) for key in told}, {book.pads()})


class TwelveFigures(Refusing):
    def test_two_on_each_pad(self):
        chance = seeded(203)
        for _ in range(60):
            book = two_on_each_pad(chance)
            heights = [chance.randint(0, 6) for _ in range(6)]
            depths = [[shape[0][2] for shape in book.figures() if shape[0][0] == pad] for pad in range(6)]
            fits = [len([depth for depth in depths[pad] if depth <= heights[pad]]) for pad in range(6)]
            clears = [4 ** height - few * 4 ** max(height - 1, 0) for height, few in zip(heights, fits)]
            self.assertEqual(clear(book, heights), math.prod(clears))
            self.assertEqual(len(book.apart_sets()), 3 ** 6)
            self.assertEqual(book.apart_sets(), sorted(book.apart_sets()))
            shallow = [shape[0][0] for shape in book.figures() if shape[0][2] == 1]
            torn = fillings_torn(book, [1] * 6)
            self.assertEqual(len(torn), 2 ** len(set(shallow)))
            for taken, many in torn.items():
                some = [shallow.count(pad) if taken[pad] == 1 else 4 - shallow.count(pad) for pad in range(6)]
                self.assertEqual(many, math.prod(some))

    def test_weights_on_each_pad(self):
        chance = seeded(204)
        for _ in range(60):
            book = two_on_each_pad(chance)
            weights = chance_weights(chance, book)
            rest = [sum(some) for some in weights]
            for ((pad, note, depth),) in book.figures():
                rest[pad] -= weights[pad][note]
            whole = fractions.Fraction(math.prod(rest), math.prod(sum(some) for some in weights))
            self.assertEqual(clear_weight(book, weights), (whole.numerator, whole.denominator))
            for figure, ((pad, note, depth),) in enumerate(book.figures()):
                if whole == 0:
                    self.refuses(NoMean, {}, mean, book, weights, figure)
                else:
                    alone = fractions.Fraction(weights[pad][note], rest[pad])
                    self.assertEqual(mean(book, weights, figure), (alone.numerator, alone.denominator))


class Codes(unittest.TestCase):
    def test_codes_rise_as_tuples_do(self):
        numbers = list(itertools.product((0, 1, 5, 6), repeat=3))
        codes = [code_of(list(enumerate(some))) for some in numbers]
        self.assertEqual(codes, sorted(set(codes)))
        self.assertEqual([numbers_of(code, 3) for code in codes], numbers)

    def test_what_no_pad_has_is_no_good_code(self):
        good = {code_of(list(enumerate(some))) for some in itertools.product(range(7), repeat=3)}
        for some in itertools.product((0, 1, 6), repeat=3):
            for depths in itertools.product(range(4), repeat=3):
                code, step = code_of(list(enumerate(some))), code_of(list(enumerate(depths)))
                self.assertEqual(code + step in good, all(number <= 6 for number in plus(some, depths)))
                self.assertEqual(code - step in good, all(one >= other for one, other in zip(some, depths)))


if __name__ == "__main__":
    unittest.main()
