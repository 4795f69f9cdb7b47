"""Walks: the sweeps of a board's parts till nothing stands there or the rows come again."""

from tearboard.errors import NeverClear, TooFar

ENDS = "ends"
AGAIN = "again"
FAR = "far"


def standing_on(book, rows):
    """The rising list of the figures that stand on these rows."""
    places = [0] * len(rows)
    return [figure for figure, shape in enumerate(book.figures()) if stands_at(shape, rows, places)]


def stands_at(shape, rows, places):
    """Whether a figure stands where the rows begin at these places."""
    for pad, note, depth in shape:
        if not has_on_top(rows[pad], places[pad], note, depth):
            return False
    return True


def has_on_top(row, place, note, depth):
    """Whether a row from this place on has this note on top and at least so many notes."""
    lead, turn = row
    if len(turn) == 0 and place + depth > len(lead):
        return False
    top = lead[place] if place < len(lead) else turn[place - len(lead)]
    return top == note


def place_behind(row, place, many):
    """The place behind so many notes; in the round it goes on from the round's beginning.

    A told row is least, so behind two places there are the same notes just where the places are the same.
    """
    lead, turn = row
    later = place + many
    if later <= len(lead):
        return later
    return len(lead) + (later - len(lead)) % len(turn)


def places_behind(book, rows, places, figures):
    """The places at which the rows begin behind these figures."""
    later = list(places)
    for figure in figures:
        for pad, note, depth in book.shape(figure):
            later[pad] = place_behind(rows[pad], later[pad], depth)
    return later


def figures_within(book, part, row):
    """The figures of a row that lie on pads of a part."""
    return [figure for figure in row if book.shape(figure)[0][0] in part]


def walked(book, rows, part, most, ahead=()):
    """How sweeping a part on behind the figures torn ahead of it goes, and the list of the sweeps.

    (ENDS, how many, sweeps): nothing stands behind them. (AGAIN, first, sweeps): behind them the rows are what they
    were behind the first ones. (FAR, how many, sweeps): with them more than most figures are torn, those ahead too.
    """
    figures = [(figure, shape) for figure, shape in enumerate(book.figures()) if shape[0][0] in part]
    places = places_behind(book, rows, [0] * len(rows), ahead)
    torn = len(ahead)
    sweeps = []
    met = {}
    while torn <= most:
        here = tuple(places)
        if here in met:
            return AGAIN, met[here], sweeps
        met[here] = len(sweeps)
        sweep = [figure for figure, shape in figures if stands_at(shape, rows, places)]
        if len(sweep) == 0:
            return ENDS, len(sweeps), sweeps
        sweeps.append(sweep)
        torn += len(sweep)
        places = places_behind(book, rows, places, sweep)
    return FAR, len(sweeps), sweeps


def story_of(book, rows, pad, most):
    """The story of the part that has this pad."""
    part = [pads for pads in book.parts() if pad in pads][0]
    end, first, sweeps = walked(book, rows, part, most)
    if end == FAR:
        raise TooFar(most)
    if end == ENDS:
        return ENDS, len(sweeps)
    return AGAIN, first, len(sweeps)


def check_end(end, part, most):
    """Refuses a part whose walk does not come to be clear."""
    if end == AGAIN:
        raise NeverClear(part[0])
    if end == FAR:
        raise TooFar(most)


def sweeps_till_clear(book, rows, most):
    """The list of what each sweep of the whole board tears till it is clear."""
    walks = []
    for part in book.parts():
        end, first, sweeps = walked(book, rows, part, most)
        check_end(end, part, most)
        walks.append(sweeps)
    many = max([len(walk) for walk in walks])
    return [torn_at_once(walks, at) for at in range(many)]


def torn_at_once(walks, at):
    """The rising list of what all parts tear in the sweep with this number."""
    return sorted([figure for walk in walks for sweep in walk[at:at + 1] for figure in sweep])


def lacking(book, rows, kept, most):
    """The row of the figures that are torn behind a kept heap, a beginning, till the board is clear."""
    row = []
    for part in book.parts():
        ahead = figures_within(book, part, kept.row())
        end, first, sweeps = walked(book, rows, part, most, ahead)
        if end != ENDS:
            # Which refusal goes is told by the walk on which nothing is kept.
            end, first, sweeps = walked(book, rows, part, most)
            check_end(end, part, most)
        row += [figure for sweep in sweeps for figure in sweep]
    return row


def torn_counts(book, rows, many, most):
    """How often each figure is torn in so many sweeps of the whole board."""
    counts = [0] * len(book)
    for part in book.parts():
        end, first, sweeps = walked(book, rows, part, most)
        if end == FAR:
            raise TooFar(most)
        for sweep, times in sweep_times(first, sweeps, many):
            for figure in sweep:
                counts[figure] += times
    return counts


def sweep_times(first, sweeps, many):
    """Pairs of a sweep and how often it is done in so many, the sweeps behind the first ones coming again for ever."""
    again = len(sweeps) - first
    if again == 0 or many <= len(sweeps):
        return [(sweep, 1) for sweep in sweeps[:many]]
    whole, rest = divmod(many - first, again)
    ahead = [(sweep, 1) for sweep in sweeps[:first]]
    return ahead + [(sweep, whole + 1 if at < rest else whole) for at, sweep in enumerate(sweeps[first:])]
