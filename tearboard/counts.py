"""Counts: fillings that are clear, ways to be torn, and chances of notes that are drawn by weights."""

from tearboard.books import mask_of
from tearboard.errors import BadHeights, BadWeights, NoMean, TooMany
from tearboard.heaps import product
from tearboard.tables import fitting, numbers_of, torn_of_part, ways_of_part

MOST_TABLE = 4000
MOST_HEIGHT = 6
MOST_WEIGHT = 999


def clear(book, heights):
    """How many fillings of these heights are clear."""
    check_heights(book, heights)
    colours = book.colours()
    stands = []
    for shape in fitting(book, heights):
        stands.append((mask_of(shape), 1, product([colours[pad] for pad, note, depth in shape])))
    return clear_share(product([many for many, height in zip(colours, heights) for at in range(height)]), stands)


def ways_torn(book, taken):
    """How many rows of pairs take just these numbers of notes from the pads."""
    check_heights(book, taken)
    check_table(taken)
    # Figures of unlike parts are apart, so rows of theirs come together in just one row.
    return product([ways_of_part(book, part, taken) for part in book.parts()])


def fillings_torn(book, heights):
    """From the numbers of notes that are torn from the pads to how many fillings of these heights they are torn of."""
    check_heights(book, heights)
    check_table(heights)
    many = {0: 1}
    for part in book.parts():
        more = torn_of_part(book, part, heights)
        many = {code + other: many[code] * more[other] for code in many for other in more}
    return {numbers_of(code, book.pads()): many[code] for code in sorted(many)}


def clear_weight(book, weights):
    """The chance, as a fraction, that the notes on top let no figure stand."""
    check_weights(book, weights)
    whole = product([sum(drawn) for drawn in weights])
    return lowest(clear_share(whole, stands_by_weight(book, weights)), whole)


def mean(book, weights, figure):
    """How often a figure is torn in the mean, as a fraction."""
    check_weights(book, weights)
    book.shape(figure)
    whole = product([sum(drawn) for drawn in weights])
    stands = stands_by_weight(book, weights)
    all_clear = clear_share(whole, stands)
    if all_clear == 0:
        raise NoMean()
    mask, some, all_there = stands[figure]
    # Where it stands those that meet it are barred, so it stands alone where none that is apart from it stands.
    beside = [stand for stand in stands if stand[0] & mask == 0]
    return lowest(clear_share(whole // all_there * some, beside), all_clear)


def check_heights(book, heights):
    """Refuses another count of heights, else the first one that is none."""
    if len(heights) != book.pads():
        raise BadHeights(-1)
    for pad, height in enumerate(heights):
        if not 0 <= height <= MOST_HEIGHT:
            raise BadHeights(pad)


def check_table(heights):
    """Refuses heights of which a table would be too great."""
    if product([height + 1 for height in heights]) > MOST_TABLE:
        raise TooMany(MOST_TABLE)


def check_weights(book, weights):
    """Refuses another count of lists, else the first one that is not of weights for its pad's notes."""
    if len(weights) != book.pads():
        raise BadWeights(-1)
    for pad, (some, colours) in enumerate(zip(weights, book.colours())):
        if len(some) != colours or not all([0 <= weight <= MOST_WEIGHT for weight in some]) or sum(some) == 0:
            raise BadWeights(pad)


def stands_by_weight(book, weights):
    """For each figure its pads as of mask_of, how much by weight lets it stand there, and how much there is there."""
    told = []
    for shape in book.figures():
        wanted = product([weights[pad][note] for pad, note, depth in shape])
        told.append((mask_of(shape), wanted, product([sum(weights[pad]) for pad, note, depth in shape])))
    return told


def clear_share(whole, stands):
    """How much of a whole lets no figure stand; stands has for each figure what stands_by_weight tells of it.

    It is gone through the sets of figures that are apart, those of an odd size taken away: figures that stand at once
    are apart, so where some stand the sets of them cancel one another out. Only the pads that a set has are kept.
    """
    shares = {0: whole}
    for mask, some, all_there in stands:
        free = [held for held in shares if held & mask == 0]
        for held in free:
            shares[held | mask] = shares.get(held | mask, 0) - shares[held] // all_there * some
    return sum(shares.values())


def lowest(over, under):
    """The fraction in lowest terms."""
    one, other = over, under
    while other > 0:
        one, other = other, one % other
    return over // one, under // one
