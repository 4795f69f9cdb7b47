"""Places: where on each row the notes that are left begin, and which figures stand there."""

from tearboard.books import MOST_COLOURS, MOST_DEPTH


class Course:
    """The places of a part's pads, looked through once, so that each sweep of the part is a few looks into lists.

    Sets of figures are numbers here, with a bit for each figure.
    """

    def __init__(self, book, rows, part):
        self.part = part
        self.crew = figures_of_part(book, part)
        # For each pad a list of the sets of figures that it lets stand, one for each place.
        self.tops = [tops_of(self.crew, pad, rows[pad]) for pad in part]
        self.ways_on = [places_in_order(rows[pad]) for pad in part]
        self.plans = {}

    def plan(self, standing):
        """What a sweep of this set tears, and by pairs which pads of the part go on, from each place to which one."""
        if standing not in self.plans:
            sweep = [(figure, shape) for figure, shape in self.crew if (standing >> figure) & 1 == 1]
            steps = [(self.part.index(pad), depth) for figure, shape in sweep for pad, note, depth in shape]
            moves = [(at, self.ways_on[at][depth:]) for at, depth in steps]
            self.plans[standing] = [figure for figure, shape in sweep], moves
        return self.plans[standing]


def standing_on(book, rows):
    """The rising list of the figures that stand on these rows."""
    return standing_at(list(enumerate(book.figures())), rows, [0] * len(rows))


def standing_at(figures, rows, places):
    """Those of some figures, pairs of a number and triples, that stand where the rows begin at these places."""
    return [figure for figure, shape in figures if stands_at(shape, rows, places)]


def stands_at(shape, rows, places):
    """Whether a figure stands where the rows begin at these places."""
    for pad, note, depth in shape:
        if not has_on_top(rows[pad], places[pad], note, depth):
            return False
    return True


def has_on_top(row, place, note, depth):
    """Whether a row from this place on has this note on top and at least so many notes."""
    lead, turn = row
    if len(turn) == 0 and place + depth > len(lead):
        return False
    top = lead[place] if place < len(lead) else turn[place - len(lead)]
    return top == note


def place_behind(row, place, many):
    """The place behind so many notes; in the round it goes on from the round's beginning.

    A told row is least, so behind two places there are the same notes just where the places are the same.
    """
    lead, turn = row
    later = place + many
    if later <= len(lead):
        return later
    return len(lead) + (later - len(lead)) % len(turn)


def places_behind(book, rows, places, figures):
    """The places at which the rows begin behind these figures."""
    later = list(places)
    for figure in figures:
        for pad, note, depth in book.shape(figure):
            later[pad] = place_behind(rows[pad], later[pad], depth)
    return later


def part_with(book, pad):
    """The part of a book that has this pad."""
    return [part for part in book.parts() if pad in part][0]


def figures_of_part(book, part):
    """Pairs of the number and the triples of each figure that lies on pads of a part."""
    return [(figure, shape) for figure, shape in enumerate(book.figures()) if shape[0][0] in part]


def tops_of(figures, pad, row):
    """For each place of a row the set of the figures that this pad lets stand there."""
    lead, turn = row
    wanting = [let_stand(figures, pad, note, MOST_DEPTH) for note in range(MOST_COLOURS)]
    tops = [wanting[note] for note in lead + turn]
    if len(turn) > 0:
        return tops
    # On the last notes some figures lack depth, and behind them all none of this pad stands.
    last = max(len(lead) + 1 - MOST_DEPTH, 0)
    short = [let_stand(figures, pad, lead[place], len(lead) - place) for place in range(last, len(lead))]
    return tops[:last] + short + [let_stand(figures, pad, None, 0)]


def let_stand(figures, pad, top, many):
    """The set of the figures that have not this pad, or want this note on top of it and no more than so many notes."""
    good = 0
    for figure, shape in figures:
        if all([at != pad or (note == top and depth <= many) for at, note, depth in shape]):
            good |= 1 << figure
    return good


def places_in_order(row):
    """The places of a row one behind the other, and those behind the last one, as far as a figure's depth goes."""
    lead, turn = row
    size = len(lead) + len(turn)
    ends = [size] if len(turn) == 0 else [place_behind(row, size, more) for more in range(MOST_DEPTH)]
    return list(range(size)) + ends
