"""Heaps: rows of torn figures in which only who waits for whom counts."""

from tearboard.books import pads_of
from tearboard.errors import Barred, NoBeginning, NoPad, OtherBook, TooMany

MOST_STANDS = 4000


class Heap:
    """A row of figures of a book; exchanging neighbours that are apart leaves it the same heap."""

    def __init__(self, book, row=()):
        self.owner = book
        # Rows are one heap just where their layers are alike, so nothing else is kept of the row.
        self.tiers = tiers_of(book, row)

    def book(self):
        """The book whose figures these are."""
        return self.owner

    def layers(self):
        """The list of the layers, each a rising list of figures."""
        return [list(tier) for tier in self.tiers]

    def row(self):
        """The list of the figures, the layers one behind the other."""
        return [figure for tier in self.tiers for figure in tier]

    def first(self):
        """The rising list of the figures that wait for none."""
        return [figure for tier in self.tiers[:1] for figure in tier]

    def last(self):
        """The rising list of the figures for which none waits."""
        columns = self.columns()
        spans = [pads_of(shape) for shape in self.owner.figures()]
        return [figure for figure, pads in enumerate(spans) if all([columns[pad][-1:] == [figure] for pad in pads])]

    def on(self, pad):
        """The list of the figures that have this pad, in order."""
        if not 0 <= pad < self.owner.pads():
            raise NoPad(pad)
        return [figure for figure in self.row() if pad in pads_of(self.owner.shape(figure))]

    def columns(self):
        """For each pad the list of the figures that have it, in order."""
        return [self.on(pad) for pad in range(self.owner.pads())]

    def taken(self):
        """The tuple of how many notes the figures take from each pad."""
        many = [0] * self.owner.pads()
        for figure in self.row():
            for pad, note, depth in self.owner.shape(figure):
                many[pad] += depth
        return tuple(many)

    def orders(self, *, most=MOST_STANDS):
        """How many rows of figures are this heap."""
        columns = self.columns()
        if product([len(column) + 1 for column in columns]) > most:
            raise TooMany(most)
        ways = 1
        ahead = 0
        # Parts have no pad in common, so their orders are shuffled into one another freely.
        for part in self.owner.parts():
            spans = spans_within(self.owner, part)
            many = len([figure for figure in self.row() if figure in spans])
            ahead += many
            ways *= choices(ahead, many) * orders_of_part(columns, spans, many)
        return ways

    def plus(self, other):
        """The heap of this one with the other behind it."""
        self.check_book(other)
        return Heap(self.owner, self.row() + other.row())

    def begins(self, other):
        """Whether the other one is this one with something, or nothing, behind it."""
        self.check_book(other)
        return all([few == many[:len(few)] for few, many in zip(self.columns(), other.columns())])

    def less(self, other):
        """What is left of this heap behind the other one, with which it begins."""
        if not other.begins(self):
            raise NoBeginning()
        return Heap(self.owner, row_without(self.row(), other.row()))

    def meet(self, other):
        """The greatest heap that is a beginning of both."""
        self.check_book(other)
        columns = other.columns()
        return beginning_of(self, lambda pads, places, figure: is_next(columns, pads, places, figure))

    def joined(self, other):
        """The least heap of which both are beginnings."""
        common = self.meet(other)
        here = self.less(common).taken()
        rest = other.less(common)
        for pad, (some, others) in enumerate(zip(here, rest.taken())):
            if some > 0 and others > 0:
                raise Barred(pad)
        return self.plus(rest)

    def parted(self, other):
        """The first pad, and the first place there, at which the two are unlike; None where they are one heap."""
        self.check_book(other)
        for pad, (some, others) in enumerate(zip(self.columns(), other.columns())):
            if some != others:
                return pad, first_unlike(some, others)
        return None

    def check_book(self, other):
        """Refuses a heap of another book."""
        if self.owner != other.book():
            raise OtherBook()

    def __len__(self):
        return len(self.row())

    def __eq__(self, other):
        return isinstance(other, Heap) and self.owner == other.owner and self.tiers == other.tiers

    def __str__(self):
        return "; ".join([" ".join([str(figure) for figure in tier]) for tier in self.tiers])

    def __repr__(self):
        return f"Heap({len(self.row())} figures, {len(self.tiers)} layers)"


def tiers_of(book, row):
    """The layers of a row of figures, as rising tuples; the book refuses the first that is none of its figures."""
    heights = [0] * book.pads()
    tiers = []
    for figure in row:
        pads = pads_of(book.shape(figure))
        height = max([heights[pad] for pad in pads])
        if height == len(tiers):
            tiers.append([])
        tiers[height].append(figure)
        for pad in pads:
            heights[pad] = height + 1
    return tuple([tuple(sorted(tier)) for tier in tiers])


def beginning_of(heap, stays):
    """The heap of the figures that stay and wait, one behind the other, for none that does not.

    stays is asked with a figure's pads, how many figures lie ahead on each pad, and the figure.
    """
    book = heap.book()
    places = [0] * book.pads()
    barred = [False] * book.pads()
    row = []
    for figure in heap.row():
        pads = pads_of(book.shape(figure))
        if any([barred[pad] for pad in pads]) or not stays(pads, places, figure):
            for pad in pads:
                barred[pad] = True
        else:
            row.append(figure)
        for pad in pads:
            places[pad] += 1
    return Heap(book, row)


def is_next(columns, pads, places, figure):
    """Whether a figure is what lies behind these places on all its pads."""
    return all([columns[pad][places[pad]:places[pad] + 1] == [figure] for pad in pads])


def row_without(row, gone):
    """The row that lacks, of each figure, the first ones, as many as are gone."""
    spent = {}
    for figure in gone:
        spent[figure] = spent.get(figure, 0) + 1
    rest = []
    for figure in row:
        if spent.get(figure, 0) > 0:
            spent[figure] -= 1
        else:
            rest.append(figure)
    return rest


def first_unlike(some, others):
    """The first place at which two unlike lists are unlike; the end of the shorter one, if not before."""
    place = 0
    while some[place:place + 1] == others[place:place + 1]:
        place += 1
    return place


def spans_within(book, part):
    """The pads of each figure of a part, by the figure's number."""
    spans = [pads_of(shape) for shape in book.figures()]
    return {figure: pads for figure, pads in enumerate(spans) if pads[0] in part}


def orders_of_part(columns, spans, many):
    """In how many orders the figures of a part, so many, come off its pads."""
    ways = {(0,) * len(columns): 1}
    for step in range(many):
        ways = ways_with_one_more(columns, spans, ways)
    return sum(ways.values())


def ways_with_one_more(columns, spans, ways):
    """From the ways to come to each place on the pads, those to come to the places behind one more figure."""
    further = {}
    for places in ways:
        for figure in spans:
            pads = spans[figure]
            if is_next(columns, pads, places, figure):
                later = tuple([place + 1 if pad in pads else place for pad, place in enumerate(places)])
                further[later] = further.get(later, 0) + ways[places]
    return further


def product(numbers):
    """All the numbers multiplied."""
    result = 1
    for number in numbers:
        result *= number
    return result


def choices(many, few):
    """In how many ways few things are chosen out of many."""
    ways = 1
    for at in range(few):
        ways = ways * (many - at) // (at + 1)
    return ways
