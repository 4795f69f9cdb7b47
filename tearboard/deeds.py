"""Deeds: the rows behind each of them, and what of a kept heap is kept behind it."""

from tearboard.errors import BadBeneath, BadDeed, BadNote, BadRow, Full, NoEnd, NoNote, NoPad, NotStanding
from tearboard.heaps import Heap, beginning_of
from tearboard.places import standing_on
from tearboard.rows import MOST_LEAD, MOST_ROUND, behind, least_row, note_at
from tearboard.walks import Walks, board_sweeps

# Each deed's word, and how many things its tuple has.
KINDS = (
    ("put", 3), ("write", 3), ("change", 4), ("reset", 4), ("lay", 3), ("tear", 2), ("sweep", 1), ("settle", 1),
)


def rows_behind_deed(book, rows, deed, most):
    """The rows behind a deed; most bounds what a settle tears of a part."""
    if len(deed) == 0 or (deed[0], len(deed)) not in KINDS:
        raise BadDeed()
    word, *given = deed
    if word == "settle":
        return rows_behind_sweeps(book, rows, board_sweeps(Walks(book, rows), most))
    action = ACTIONS[word]
    return action(book, rows, *given)


def kept_behind_deed(heap, deed):
    """What of a kept heap is kept behind a deed that was not refused."""
    if deed[0] == "write":
        return heap
    if deed[0] == "change":
        return untouched(heap, deed[1], deed[2])
    return Heap(heap.book())


def untouched(heap, pad, depth):
    """The heap of those that did not take the note at this depth and wait for none that did."""
    toucher = place_of_taker(heap, pad, depth)
    return beginning_of(heap, lambda pads, places, figure: pad not in pads or places[pad] != toucher)


def place_of_taker(heap, pad, depth):
    """The place, among the figures on a pad, of the one that takes the note at this depth; behind them all, if none."""
    book = heap.book()
    taken = 0
    column = heap.on(pad)
    for place, figure in enumerate(column):
        taken += depth_on(book.shape(figure), pad)
        if depth < taken:
            return place
    return len(column)


def depth_on(shape, pad):
    """How many notes a figure takes from a pad."""
    return sum([depth for at, note, depth in shape if at == pad])


def put(book, rows, pad, note):
    """The rows with a note more on top of a pad."""
    check_pad(book, pad)
    check_note(book, pad, note)
    return with_row(rows, pad, topped(rows, pad, (note,)))


def write(book, rows, pad, notes):
    """The rows with notes more behind the last one of a pad."""
    check_pad(book, pad)
    lead, turn = rows[pad]
    if len(turn) > 0:
        raise NoEnd(pad)
    for note in notes:
        check_note(book, pad, note)
    if len(lead) + len(notes) > MOST_LEAD:
        raise Full(pad)
    return with_row(rows, pad, (lead + tuple(notes), ()))


def change(book, rows, pad, depth, note):
    """The rows with another note at a depth of a pad."""
    check_pad(book, pad)
    # Deeper notes of a round stay as they are: the lead that told the change would be too long.
    if depth >= MOST_LEAD:
        raise NoNote(depth)
    note_at(rows[pad], depth)
    check_note(book, pad, note)
    ahead = tuple([note_at(rows[pad], at) for at in range(depth)])
    lead, turn = behind(rows[pad], depth + 1)
    return with_row(rows, pad, least_row(ahead + (note,) + lead, turn))


def reset(book, rows, pad, lead, turn):
    """The rows with another row for a pad."""
    check_pad(book, pad)
    check_row(book, pad, lead, turn)
    return with_row(rows, pad, least_row(lead, turn))


def lay(book, rows, figure, beneath):
    """The rows with a figure put on, over these notes beneath; over 0s where they are None."""
    shape = book.shape(figure)
    under = [(0,) * (depth - 1) for pad, note, depth in shape] if beneath is None else beneath
    if len(under) != len(shape):
        raise BadBeneath()
    return lay_notes(book, rows, figure, [(triple[1], *notes) for triple, notes in zip(shape, under)])


def lay_notes(book, rows, figure, notes):
    """The rows with a figure put on, of which all notes are handed in, from the top."""
    shape = book.shape(figure)
    if len(notes) != len(shape) or not all([is_taken(book, triple, some) for triple, some in zip(shape, notes)]):
        raise BadBeneath()
    for (pad, note, depth), some in zip(shape, notes):
        rows = with_row(rows, pad, topped(rows, pad, some))
    return rows


def is_taken(book, triple, notes):
    """Whether these are notes that a figure takes by this triple."""
    pad, note, depth = triple
    return len(notes) == depth and notes[0] == note and are_notes(book, pad, notes)


def tear(book, rows, figure):
    """The rows with a figure torn off."""
    book.shape(figure)
    if figure not in standing_on(book, rows):
        raise NotStanding(figure)
    return rows_behind_sweeps(book, rows, [[figure]])


def sweep(book, rows):
    """The rows with all that stand torn off at once."""
    return rows_behind_sweeps(book, rows, [standing_on(book, rows)])


ACTIONS = {"put": put, "write": write, "change": change, "reset": reset, "lay": lay, "tear": tear, "sweep": sweep}


def rows_behind_sweeps(book, rows, sweeps):
    """The rows with all that these sweeps tear torn off."""
    return rows_behind(rows, Heap(book, [figure for torn in sweeps for figure in torn]))


def rows_behind(rows, heap):
    """The rows that are left behind a heap that is torn off them."""
    return tuple([behind(row, many) for row, many in zip(rows, heap.taken())])


def with_row(rows, pad, row):
    """The rows with another one for this pad."""
    return rows[:pad] + (row,) + rows[pad + 1:]


def topped(rows, pad, notes):
    """The row of a pad with these notes on top."""
    lead, turn = rows[pad]
    row = least_row(tuple(notes) + lead, turn)
    if len(row[0]) > MOST_LEAD:
        raise Full(pad)
    return row


def least_rows(book, rows):
    """The rows of a board, as told, of what was handed in for them; none handed in: all without notes."""
    if rows is None:
        return (((), ()),) * book.pads()
    if len(rows) != book.pads():
        raise BadRow(-1)
    for pad, (lead, turn) in enumerate(rows):
        check_row(book, pad, lead, turn)
    return tuple([least_row(lead, turn) for lead, turn in rows])


def check_row(book, pad, lead, turn):
    """Refuses a row that is too long as handed in, or has what is no note of its pad."""
    fits = len(lead) <= MOST_LEAD and len(turn) <= MOST_ROUND
    if not fits or not are_notes(book, pad, lead) or not are_notes(book, pad, turn):
        raise BadRow(pad)


def check_pad(book, pad):
    """Refuses a number that no pad has."""
    if not 0 <= pad < book.pads():
        raise NoPad(pad)


def check_note(book, pad, note):
    """Refuses what is no note of a pad."""
    if not are_notes(book, pad, (note,)):
        raise BadNote(note)


def are_notes(book, pad, notes):
    """Whether these are all notes of a pad."""
    colours = book.colours()[pad]
    return all([0 <= note < colours for note in notes])
