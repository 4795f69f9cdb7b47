"""Tables of a part: in how many ways its figures take numbers of notes, and how many fillings are clear then.

Numbers of notes, one for each pad, are written as one number, their code, with some bits for each pad: codes of
unlike parts are added up, and codes rise as the tuples of the numbers do. Figures that take as many notes from the
same pads count alike, so they are one kind; a set of kinds is a number, too, with a bit for each kind.
"""

from tearboard.books import MOST_PADS, mask_of
from tearboard.heaps import product

# A height and a depth more are below 16, and what goes below nought borrows and comes to 12 or more: so the bits of
# one pad never make a good number of another one.
BITS = 4
ALL_BITS = 15
HIGHEST_BIT = 8


class Kind:
    """The figures that take as many notes from the same pads."""

    def __init__(self, code, size, ways, apart):
        # The code of what one of them takes, how many fillings that may be, and how many of these let one stand.
        self.code = code
        self.size = size
        self.ways = ways
        # The set of the kinds that are apart from this one.
        self.apart = apart


def torn_of_part(book, part, heights):
    """From codes of what is torn of a part's pads till they are clear, to of how many fillings; none of 0."""
    kinds = kinds_of(book, part, heights)
    left = left_by_code(book, part, heights, kinds)
    clears = clear_by_code(kinds, whole_set(kinds), {0: left})
    ways = ways_by_code(kinds, sorted(left))
    return {code: ways[code] * clears[code] for code in left if clears[code] > 0}


def ways_of_part(book, part, taken):
    """How many rows of pairs of a part's figures take just these numbers of its pads."""
    kinds = kinds_of(book, part, taken)
    left = left_by_code(book, part, taken, kinds)
    return ways_by_code(kinds, sorted(left)).get(code_of([(pad, taken[pad]) for pad in part]), 0)


def code_of(numbers):
    """The code of pairs of a pad and a number."""
    return sum([number << BITS * (MOST_PADS - 1 - pad) for pad, number in numbers])


def numbers_of(code, pads):
    """The tuple of the numbers, for so many pads, that have this code."""
    return tuple([code >> BITS * (MOST_PADS - 1 - pad) & ALL_BITS for pad in range(pads)])


def fitting(book, heights):
    """The figures for which pads of these heights have notes enough."""
    return [shape for shape in book.figures() if all([depth <= heights[pad] for pad, note, depth in shape])]


def kinds_of(book, part, heights):
    """The kinds of a part's figures, of those that fit these heights."""
    colours = book.colours()
    many = {}
    for shape in fitting(book, heights):
        if shape[0][0] in part:
            key = mask_of(shape), tuple([(pad, depth) for pad, note, depth in shape])
            many[key] = many.get(key, 0) + 1
    # By their last pads, as fewer sets of kinds are asked for then.
    keys = sorted(many)
    kinds = []
    for mask, depths in keys:
        beneath = product([colours[pad] for pad, depth in depths for at in range(depth - 1)])
        size = beneath * product([colours[pad] for pad, depth in depths])
        kinds.append(Kind(code_of(depths), size, many[mask, depths] * beneath, apart_from(mask, keys)))
    return kinds


def apart_from(mask, keys):
    """The set of the kinds that have none of these pads."""
    return sum([1 << at for at, (other, depths) in enumerate(keys) if mask & other == 0])


def whole_set(kinds):
    """The set of all kinds."""
    return (1 << len(kinds)) - 1


def left_by_code(book, part, heights, kinds):
    """From each code of what a part's figures may take, to how many fillings there are of what is left."""
    # With so much more a number has its highest bit just where it is greater than its pad's height.
    more = code_of([(pad, HIGHEST_BIT - 1 - heights[pad]) for pad in part])
    over = code_of([(pad, HIGHEST_BIT) for pad in part])
    steps = [(kind.code, kind.size) for kind in kinds]
    left = {0: product([book.colours()[pad] for pad in part for at in range(heights[pad])])}
    layer = [0]
    while len(layer) > 0:
        further = []
        for code in layer:
            for step, size in steps:
                later = code + step
                if (later + more) & over == 0 and later not in left:
                    left[later] = left[code] // size
                    further.append(later)
        layer = further
    return left


def clear_by_code(kinds, some, known):
    """From codes to how many fillings of what is left let none of some kinds stand; known has those of other sets.

    Where one of a kind stands, only those that are apart from it may stand with it: so what is clear of some kinds
    is what is clear of them but one, less that on which this one stands and, of the others, none apart from it.
    """
    if some not in known:
        at = some.bit_length() - 1
        step, ways = kinds[at].code, kinds[at].ways
        others = clear_by_code(kinds, some - (1 << at), known)
        beside = clear_by_code(kinds, some & kinds[at].apart, known)
        known[some] = {code: others[code] - ways * beside.get(code + step, 0) for code in others}
    return known[some]


def ways_by_code(kinds, codes):
    """From codes, which are handed in rising, to how many rows of pairs take just them.

    Rows that begin with none of some kinds begin with none of one more either, or have one of this in front and
    behind it a row that begins with none of those of them that are apart from it.
    """
    lacking = first_lacking(kinds)
    tables = {some: {} for some in lacking}
    tables[whole_set(kinds)] = {0: 1}
    rules = []
    # What a set is told by is greater, or told by codes that lie ahead.
    for some in sorted(lacking, reverse=True):
        at = lacking[some]
        kind = kinds[at]
        rules.append((some, some | 1 << at, some & kind.apart, kind.code, kind.ways))
    for code in codes:
        for some, greater, behind, step, ways in rules:
            tables[some][code] = tables[greater].get(code, 0) + ways * tables[behind].get(code - step, 0)
    return tables[0]


def first_lacking(kinds):
    """From each set that is asked for on the way from none of the kinds to all of them, to the first kind it lacks."""
    lacking = {}
    waiting = [0]
    while len(waiting) > 0:
        some = waiting.pop()
        if some < whole_set(kinds) and some not in lacking:
            at = 0
            while some >> at & 1 == 1:
                at += 1
            lacking[some] = at
            waiting += [some | 1 << at, some & kinds[at].apart]
    return lacking
