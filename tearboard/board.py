"""Boards: rows of notes on the pads of a book, through many deeds."""

from tearboard.deeds import check_pad, kept_behind_deed, lay_notes, least_rows
from tearboard.deeds import rows_behind, rows_behind_deed, rows_behind_sweeps
from tearboard.errors import BadNumber, NothingAgain, NothingBack
from tearboard.heaps import Heap
from tearboard.places import standing_on
from tearboard.rows import note_at
from tearboard.texts import book_text, row_text
from tearboard.walks import Walks, board_sweeps, lacking, story_of, torn_counts

MOST_WALKED = 20000
MOST_SWEEPS = 10 ** 15


class Board:
    """For each pad of a book a row of notes, with the steps that were done and what is kept of the torn figures."""

    def __init__(self, book, *, rows=None):
        self.owner = book
        self.past = []
        self.future = []
        self.many_found = 0
        self.stand(least_rows(book, rows), Heap(book), False)

    def put(self, pad, note):
        """Puts a note on top of a pad."""
        self.do(("put", pad, note))

    def write(self, pad, notes):
        """Writes notes behind the last one of a pad."""
        self.do(("write", pad, notes))

    def change(self, pad, depth, note):
        """Makes the note at a depth of a pad another one."""
        self.do(("change", pad, depth, note))

    def reset(self, pad, lead, *, turn=()):
        """Gives a pad another row."""
        self.do(("reset", pad, lead, turn))

    def lay(self, figure, *, beneath=None):
        """Puts a figure on, over these notes beneath."""
        self.do(("lay", figure, beneath))

    def tear(self, figure):
        """Tears a standing figure off."""
        self.do(("tear", figure))

    def sweep(self):
        """Tears all that stand at once; tells them."""
        torn = self.standing()
        self.do(("sweep",))
        return torn

    def settle(self, *, most=MOST_WALKED):
        """Sweeps till the board is clear; tells what each sweep tore."""
        sweeps = board_sweeps(self.walks, most)
        self.step(rows_behind_sweeps(self.owner, self.piles, sweeps), Heap(self.owner), False)
        return sweeps

    def do(self, deed):
        """Does one deed, told as a tuple, as a step."""
        self.all_of([deed])

    def all_of(self, deeds):
        """Does all the deeds as one step, or, where one is refused, none."""
        piles = self.piles
        beginning = self.beginning
        for deed in deeds:
            piles = rows_behind_deed(self.owner, piles, deed, MOST_WALKED)
            beginning = kept_behind_deed(beginning, deed)
        self.step(piles, beginning, self.is_whole and len(deeds) == 0)

    def step(self, piles, beginning, is_whole):
        """Goes on to these rows by a step that can be taken back."""
        self.past.append(self.piles)
        self.future = []
        self.stand(piles, beginning, is_whole)

    def undo(self):
        """Takes the last step back."""
        if len(self.past) == 0:
            raise NothingBack()
        self.future.append(self.piles)
        self.stand(self.past.pop(), Heap(self.owner), False)

    def redo(self):
        """Does the step again that was taken back last."""
        if len(self.future) == 0:
            raise NothingAgain()
        self.past.append(self.piles)
        self.stand(self.future.pop(), Heap(self.owner), False)

    def stand(self, piles, beginning, is_whole):
        """Has these rows from now on, and keeps this beginning."""
        self.piles = piles
        self.beginning = beginning
        # Whether all that is torn was asked for, with no deed, step back or step again since.
        self.is_whole = is_whole
        self.walks = Walks(self.owner, piles)

    def steps(self):
        """How many steps can be taken back, and how many done again."""
        return len(self.past), len(self.future)

    def twin(self):
        """A board that has all that this one has, and goes its own way from now on."""
        other = Board(self.owner, rows=self.piles)
        other.past = list(self.past)
        other.future = list(self.future)
        other.stand(self.piles, self.beginning, self.is_whole)
        other.many_found = self.many_found
        return other

    def book(self):
        """The book of the board."""
        return self.owner

    def rows(self):
        """The list of the pads' rows, each a pair (lead, round)."""
        return list(self.piles)

    def seen(self, pad, depth=0):
        """The note at a depth of a pad."""
        check_pad(self.owner, pad)
        return note_at(self.piles[pad], depth)

    def height(self, pad):
        """How many notes a pad has; None where it has a round."""
        check_pad(self.owner, pad)
        lead, turn = self.piles[pad]
        return len(lead) if len(turn) == 0 else None

    def standing(self):
        """The rising list of the figures that stand."""
        return standing_on(self.owner, self.piles)

    def stands(self, figure):
        """Whether a figure stands."""
        self.owner.shape(figure)
        return figure in self.standing()

    def story(self, pad, *, most=MOST_WALKED):
        """The story of the part that has this pad."""
        check_pad(self.owner, pad)
        return story_of(self.walks, pad, most)

    def torn_by(self, sweeps, *, most=MOST_WALKED):
        """For each figure how often it is torn in so many sweeps."""
        if not 0 <= sweeps <= MOST_SWEEPS:
            raise BadNumber(sweeps)
        return torn_counts(self.walks, sweeps, most)

    def heap(self, *, most=MOST_WALKED):
        """The heap of the figures that are torn till the board is clear."""
        if not self.is_whole:
            row = lacking(self.walks, self.beginning, most)
            self.beginning = Heap(self.owner, self.beginning.row() + row)
            self.is_whole = True
            self.many_found += len(row)
        return self.beginning

    def torn(self, *, most=MOST_WALKED):
        """The list of pairs (figure, notes) of what is torn till the board is clear, by layers."""
        return torn_pairs(self.piles, self.heap(most=most))

    def left(self, *, most=MOST_WALKED):
        """The list of the rows that are left when the board is clear."""
        return list(rows_behind(self.piles, self.heap(most=most)))

    def kept(self):
        """How many torn figures are kept."""
        return len(self.beginning)

    def found(self):
        """How many torn figures were found so far."""
        return self.many_found

    def __len__(self):
        return len(self.piles)

    def __eq__(self, other):
        return isinstance(other, Board) and self.owner == other.owner and self.piles == other.piles

    def __str__(self):
        return "\n".join([book_text(self.owner)] + [row_text(row) for row in self.piles] + [""])

    def __repr__(self):
        return f"Board({len(self.piles)} pads, {len(self.standing())} standing)"


def laid(book, pairs, *, rows):
    """The board of these rows with pairs (figure, notes) laid on them, from the last one back."""
    piles = least_rows(book, rows)
    for figure, notes in reversed(pairs):
        piles = lay_notes(book, piles, figure, notes)
    return Board(book, rows=piles)


def torn_pairs(rows, heap):
    """Pairs of each figure of a heap and the notes that it takes, torn off these rows."""
    book = heap.book()
    gone = [0] * len(rows)
    pairs = []
    for figure in heap.row():
        shape = book.shape(figure)
        pairs.append((figure, tuple([notes_from(rows[pad], gone[pad], depth) for pad, note, depth in shape])))
        for pad, note, depth in shape:
            gone[pad] += depth
    return pairs


def notes_from(row, place, many):
    """The tuple of so many notes of a row, from a place on."""
    return tuple([note_at(row, place + at) for at in range(many)])
