"""Books: pads with their colours, and figures of which any two that meet bar one another."""

from tearboard.errors import BadColours, BadFigure, BadNumber, BadOrder
from tearboard.errors import Meeting, NoFigure, OtherColours, TooMany

MOST_PADS = 6
MOST_COLOURS = 4
MOST_FIGURES = 12
MOST_DEPTH = 3
MOST_POINTS = 7


class Book:
    """Pads with their colours, and the figures that are torn off them."""

    def __init__(self, colours, *, figures=()):
        check_colours(colours)
        if len(figures) > MOST_FIGURES:
            raise TooMany(MOST_FIGURES)
        check_figures(colours, figures)
        check_meetings(figures)
        self.palette = tuple(colours)
        self.shapes = tuple([copy_of_figure(figure) for figure in figures])

    def colours(self):
        """The tuple of how many colours each pad has."""
        return self.palette

    def pads(self):
        """How many pads there are."""
        return len(self.palette)

    def figures(self):
        """The list of the figures, each a tuple of triples (pad, note, depth)."""
        return list(self.shapes)

    def shape(self, at):
        """The figure with this number."""
        if not 0 <= at < len(self.shapes):
            raise NoFigure(at)
        return self.shapes[at]

    def meet(self, one, other):
        """Whether two figures have a pad in common."""
        return mask_of(self.shape(one)) & mask_of(self.shape(other)) != 0

    def parts(self):
        """The rising lists of pads that figures tie to one another, by their first pads."""
        groups = [1 << pad for pad in range(len(self.palette))]
        for shape in self.shapes:
            groups = united(groups, mask_of(shape))
        return sorted([pads_in(group) for group in groups])

    def apart_sets(self):
        """The rising tuples of figures of which no two meet, in a list that rises."""
        chosen = [((), 0)]
        for at in range(len(self.shapes) - 1, -1, -1):
            mask = mask_of(self.shapes[at])
            # Those that begin with this figure rise as what is behind it does, and all others but () begin later.
            begun = [((at,) + some, held | mask) for some, held in chosen if held & mask == 0]
            chosen = chosen[:1] + begun + chosen[1:]
        return [some for some, held in chosen]

    def __len__(self):
        return len(self.shapes)

    def __eq__(self, other):
        return isinstance(other, Book) and self.palette == other.palette and self.shapes == other.shapes

    def __str__(self):
        return " / ".join([colours_text(self.palette)] + [figure_text(shape) for shape in self.shapes])

    def __repr__(self):
        return f"Book({len(self.palette)} pads, {len(self.shapes)} figures)"


def beside(one, other):
    """The book with the pads and figures of one, then those of the other."""
    shift = one.pads()
    places = [shift + pad for pad in range(other.pads())]
    moved = [moved_figure(shape, places) for shape in other.figures()]
    return Book(one.colours() + other.colours(), figures=one.figures() + moved)


def joined(one, other):
    """The book with the figures of one, then those of the other that one has not."""
    if one.colours() != other.colours():
        raise OtherColours()
    shapes = one.figures()
    added = [shape for shape in other.figures() if shape not in shapes]
    return Book(one.colours(), figures=shapes + added)


def in_order(book, order):
    """The book in which each pad stands in the place that the order has for it."""
    if sorted(order) != list(range(book.pads())):
        raise BadOrder()
    colours = book.colours()
    moved_colours = list(colours)
    for pad, place in enumerate(order):
        moved_colours[place] = colours[pad]
    return Book(moved_colours, figures=[moved_figure(shape, order) for shape in book.figures()])


def without(book, figure):
    """The book that lacks this figure."""
    if not 0 <= figure < len(book):
        raise NoFigure(figure)
    rest = [shape for at, shape in enumerate(book.figures()) if at != figure]
    return Book(book.colours(), figures=rest)


def sinks(points, ties):
    """The book whose pads are ties that go to one of two points; a figure wants all ties of a point to go to it."""
    if not 1 <= len(ties) <= MOST_PADS:
        raise BadColours(-1)
    if not 1 <= points <= MOST_POINTS:
        raise BadNumber(points)
    for first, second in ties:
        check_tie(points, first, second)
    figures = [sink(point, ties) for point in range(points)]
    return Book([2] * len(ties), figures=[figure for figure in figures if len(figure) > 0])


def check_colours(colours):
    """Refuses a wrong count of pads, else the first pad with a wrong number of colours."""
    if not 1 <= len(colours) <= MOST_PADS:
        raise BadColours(-1)
    for at, many in enumerate(colours):
        if not 1 <= many <= MOST_COLOURS:
            raise BadColours(at)


def check_figures(colours, figures):
    """Refuses the first thing among the figures that is none of these pads."""
    for at, figure in enumerate(figures):
        if not is_figure(colours, figure):
            raise BadFigure(at)


def is_figure(colours, figure):
    """Whether it has one triple at least, only good ones, and their pads rise."""
    if len(figure) == 0 or not all([is_triple(colours, triple) for triple in figure]):
        return False
    pads = pads_of(figure)
    return all([pad < later for pad, later in zip(pads, pads[1:])])


def is_triple(colours, triple):
    """Whether it is a pad, a note of that pad, and a depth."""
    if len(triple) != 3:
        return False
    pad, note, depth = triple
    return 0 <= pad < len(colours) and 0 <= note < colours[pad] and 1 <= depth <= MOST_DEPTH


def check_meetings(figures):
    """Refuses the first two figures that meet and do not bar one another."""
    masks = [mask_of(figure) for figure in figures]
    for one, figure in enumerate(figures):
        for other in range(one + 1, len(figures)):
            if masks[one] & masks[other] != 0 and not bar(figure, figures[other]):
                raise Meeting(one, other)


def check_tie(points, first, second):
    """Refuses a tie's number that is no point, or its second one where both are alike."""
    for number in (first, second):
        if not 0 <= number < points:
            raise BadNumber(number)
    if first == second:
        raise BadNumber(second)


def copy_of_figure(figure):
    """The figure as a tuple of its own, whatever list it was handed in as."""
    return tuple([tuple(triple) for triple in figure])


def pads_of(figure):
    """The list of the pads that a figure has, in its order."""
    return [pad for pad, note, depth in figure]


def mask_of(figure):
    """The set of the pads that a figure has, as a number with a bit for each pad."""
    return sum([1 << pad for pad, note, depth in figure])


def pads_in(mask):
    """The rising list of the pads of such a set."""
    return [pad for pad in range(MOST_PADS) if mask >> pad & 1 == 1]


def bar(one, other):
    """Whether two figures want unlike notes on some common pad."""
    wanted = {pad: note for pad, note, depth in one}
    return any([wanted.get(pad, note) != note for pad, note, depth in other])


def united(groups, mask):
    """The groups of pads, each a set as of mask_of, with all those made one that have some of these pads."""
    touched = [group for group in groups if group & mask != 0]
    # Groups have no pad in common, so to add them up is to put them together.
    return [group for group in groups if group & mask == 0] + [sum(touched)]


def moved_figure(figure, places):
    """The figure with each pad moved to its place, its triples rising again."""
    return tuple(sorted([(places[pad], note, depth) for pad, note, depth in figure]))


def sink(point, ties):
    """The figure, perhaps of nothing, that wants all ties of a point to go to it."""
    return tuple([(pad, towards(point, tie), 1) for pad, tie in enumerate(ties) if point in tie])


def towards(point, tie):
    """The note by which a tie goes to this one of its two points."""
    return 0 if tie[1] == point else 1


def colours_text(colours):
    """The colours as they are written, with commas between."""
    return ",".join([str(many) for many in colours])


def figure_text(figure):
    """The triples of a figure as they are written, with blanks between."""
    return " ".join([triple_text(triple) for triple in figure])


def triple_text(triple):
    """A triple as it is written; a depth of 1 is not."""
    pad, note, depth = triple
    if depth == 1:
        return f"{pad}:{note}"
    return f"{pad}:{note}*{depth}"
