"""Counts: fillings that are clear, ways to be torn, and chances of notes that are drawn by weights.

What is clear is told by the sets of figures that are apart, those of an odd size taken away: figures that stand at
once are apart, so where one stands or more the sets of those that stand cancel one another out, and only what is clear
is left.
"""

from tearboard.errors import BadHeights, BadWeights, NoMean, TooMany
from tearboard.heaps import Heap, product
from tearboard.tables import numbers_of, torn_of_part, ways_of_part

MOST_TABLE = 4000
MOST_HEIGHT = 6
MOST_WEIGHT = 999


def clear(book, heights):
    """How many fillings of these heights are clear."""
    check_heights(book, heights)
    terms = signed_sets(book)
    return sum([terms[taken] * fillings(book, rest_of(heights, taken)) for taken in terms])


def ways_torn(book, taken):
    """How many rows of pairs take just these numbers of notes from the pads."""
    check_heights(book, taken)
    check_table(taken)
    # Figures of unlike parts are apart, so rows of theirs come together in just one row.
    return product([ways_of_part(book, part, taken) for part in book.parts()])


def fillings_torn(book, heights):
    """From the numbers of notes that are torn from the pads to how many fillings of these heights they are torn of."""
    check_heights(book, heights)
    check_table(heights)
    many = {0: 1}
    for part in book.parts():
        more = torn_of_part(book, part, heights)
        many = {code + other: many[code] * more[other] for code in many for other in more}
    return {numbers_of(code, book.pads()): many[code] for code in sorted(many)}


def clear_weight(book, weights):
    """The chance, as a fraction, that the notes on top let no figure stand."""
    check_weights(book, weights)
    all_clear = sum([share for some, share in signed_shares(book, weights)])
    return lowest(all_clear, product([sum(drawn) for drawn in weights]))


def mean(book, weights, figure):
    """How often a figure is torn in the mean, as a fraction."""
    check_weights(book, weights)
    book.shape(figure)
    shares = signed_shares(book, weights)
    all_clear = sum([share for some, share in shares])
    if all_clear == 0:
        raise NoMean()
    # Of the sets that have the figure only it is left where no other one stands, itself being of an odd size.
    alone = -sum([share for some, share in shares if figure in some])
    return lowest(alone, all_clear)


def check_heights(book, heights):
    """Refuses another count of heights, else the first one that is none."""
    if len(heights) != book.pads():
        raise BadHeights(-1)
    for pad, height in enumerate(heights):
        if not 0 <= height <= MOST_HEIGHT:
            raise BadHeights(pad)


def check_table(heights):
    """Refuses heights of which a table would be too great."""
    if product([height + 1 for height in heights]) > MOST_TABLE:
        raise TooMany(MOST_TABLE)


def check_weights(book, weights):
    """Refuses another count of lists, else the first one that is not of weights for its pad's notes."""
    if len(weights) != book.pads():
        raise BadWeights(-1)
    for pad, (some, colours) in enumerate(zip(weights, book.colours())):
        if len(some) != colours or not all([0 <= weight <= MOST_WEIGHT for weight in some]) or sum(some) == 0:
            raise BadWeights(pad)


def sign_of(some):
    """1 for a set of an even size, -1 for one of an odd size."""
    return 1 if len(some) % 2 == 0 else -1


def signed_sets(book):
    """From numbers of notes taken to the sets of figures apart that take them, with any notes beneath, signed."""
    terms = {}
    for some in book.apart_sets():
        taken = Heap(book, some).taken()
        beneath = [max(many - 1, 0) for many in taken]
        terms[taken] = terms.get(taken, 0) + sign_of(some) * fillings(book, beneath)
    return terms


def rest_of(heights, taken):
    """The tuple of what is left of heights, perhaps less than nought."""
    return tuple([height - many for height, many in zip(heights, taken)])


def fillings(book, heights):
    """How many fillings of these heights there are, clear or not; none where one is below nought."""
    if min(heights) < 0:
        return 0
    return product([colours for colours, height in zip(book.colours(), heights) for at in range(height)])


def signed_shares(book, weights):
    """Pairs of each set of figures apart and how much of all that may be drawn on top lets it stand, signed."""
    return [(some, sign_of(some) * share_of(book, weights, some)) for some in book.apart_sets()]


def share_of(book, weights, some):
    """How much, by weight, of all that may be drawn on top lets these figures stand."""
    wanted = {pad: note for figure in some for pad, note, depth in book.shape(figure)}
    return product([drawn[wanted[pad]] if pad in wanted else sum(drawn) for pad, drawn in enumerate(weights)])


def lowest(over, under):
    """The fraction in lowest terms."""
    one, other = over, under
    while other > 0:
        one, other = other, one % other
    return over // one, under // one
