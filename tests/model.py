"""The document's words done plainly and slowly, for comparison with what the program tells."""

import itertools
import random

from tearboard.board import Board
from tearboard.books import Book
from tearboard.errors import TearError


class Refusal(Exception):
    """A refusal of the model: its word and its values."""

    def __init__(self, word, *values):
        super().__init__(word, *values)
        self.told = (word, *values)


def told_of(call, *given, **named):
    """What a call tells: ("told", value), or the refusal's word and its values."""
    try:
        return "told", call(*given, **named)
    except Refusal as refusal:
        return refusal.told
    except Exception as refusal:
        if not hasattr(refusal, "word"):
            raise
        return (refusal.word, *[worth for name, worth in vars(refusal).items() if name != "word"])


def unrolled(lead, turn, many):
    """The first notes of a row, at most so many."""
    notes = list(lead)
    while turn and len(notes) < many:
        notes += list(turn)
    return notes[:many]


def plain_least(lead, turn):
    """The least row by trying every shorter round, then every shorter lead."""
    if not turn:
        return tuple(lead), ()
    many = 3 * (len(lead) + 2 * len(turn))
    notes = unrolled(lead, turn, many)
    for size in range(1, len(turn) + 1):
        for ahead in range(len(lead) + 1):
            some = notes[:ahead], notes[ahead:ahead + size]
            if unrolled(*some, many) == notes:
                return tuple(some[0]), tuple(some[1])
    raise AssertionError("the row itself is always found")


def torn_row(row, many):
    """The notes taken from the top of a row one by one, and the row that is left."""
    lead, turn = list(row[0]), list(row[1])
    taken = []
    for _ in range(many):
        if not lead:
            lead, turn = turn[:1], turn[1:] + turn[:1]
        taken.append(lead.pop(0))
    return tuple(taken), plain_least(lead, turn)


def stands(shape, rows):
    for pad, note, depth in shape:
        top = unrolled(*rows[pad], depth)
        if len(top) < depth or top[0] != note:
            return False
    return True


def standing(figures, rows):
    return [at for at, shape in enumerate(figures) if stands(shape, rows)]


def torn_off(figures, rows, at):
    """The pair (figure, notes) of a figure that is torn, and the rows that are left."""
    rows, notes = list(rows), []
    for pad, note, depth in figures[at]:
        taken, rows[pad] = torn_row(rows[pad], depth)
        notes.append(taken)
    return (at, tuple(notes)), rows


def pads_of(shape):
    return {pad for pad, note, depth in shape}


def meeting(book, one, other):
    return bool(pads_of(book.shape(one)) & pads_of(book.shape(other)))


def rows_of_heap(book, row):
    """All rows to which a row leads by exchanging neighbours that are apart."""
    found, waiting = {tuple(row)}, [tuple(row)]
    while waiting:
        some = waiting.pop()
        for at in range(len(some) - 1):
            if not meeting(book, some[at], some[at + 1]):
                other = some[:at] + (some[at + 1], some[at]) + some[at + 2:]
                if other not in found:
                    found.add(other)
                    waiting.append(other)
    return found


def parts(many, figures):
    """The parts by growing each pad's set of pads till it grows no more."""
    found = []
    for pad in range(many):
        part = {pad}
        for _ in range(many):
            for shape in figures:
                if pads_of(shape) & part:
                    part |= pads_of(shape)
        if sorted(part) not in found:
            found.append(sorted(part))
    return found


def walk(figures, rows, part, most):
    """The story of a part (None where it is too far), and its sweeps."""
    states, sweeps, torn = [list(rows)], [], 0
    while torn <= most:
        if states[-1] in states[:-1]:
            return ("again", states.index(states[-1]), len(sweeps)), sweeps
        sweep = [at for at in standing(figures, states[-1]) if pads_of(figures[at]) <= set(part)]
        if not sweep:
            return ("ends", len(sweeps)), sweeps
        sweeps.append(sweep)
        torn += len(sweep)
        rows = states[-1]
        for at in sweep:
            rows = torn_off(figures, rows, at)[1]
        states.append(rows)
    return None, sweeps


class Model:
    """A board that begins from the top at every question, and keeps each torn figure with the places it took."""

    def __init__(self, colours, figures, rows):
        self.colours, self.figures = list(colours), list(figures)
        self.rows = [plain_least(*row) for row in rows]
        self.past, self.future = [], []
        self.kept, self.asked, self.found = [], False, 0

    def parts(self):
        return parts(len(self.colours), self.figures)

    def story(self, pad, most=20000):
        if not 0 <= pad < len(self.colours):
            raise Refusal("NoPad", pad)
        part = [part for part in self.parts() if pad in part][0]
        story = walk(self.figures, self.rows, part, most)[0]
        if story is None:
            raise Refusal("TooFar", most)
        return story

    def check_ends(self, most, rows):
        for part in self.parts():
            story = walk(self.figures, rows, part, most)[0]
            if story is None:
                raise Refusal("TooFar", most)
            if story[0] == "again":
                raise Refusal("NeverClear", part[0])

    def sweeps(self, rows):
        """The sweeps of the whole board till it is clear, and the rows that are left."""
        told = []
        while standing(self.figures, rows):
            told.append(standing(self.figures, rows))
            for at in told[-1]:
                rows = torn_off(self.figures, rows, at)[1]
        return told, rows

    def torn_by(self, sweeps, most=20000):
        if not 0 <= sweeps <= 10 ** 15:
            raise Refusal("BadNumber", sweeps)
        for part in self.parts():
            if walk(self.figures, self.rows, part, most)[0] is None:
                raise Refusal("TooFar", most)
        counts, rows = [0] * len(self.figures), self.rows
        for _ in range(sweeps):
            for at in standing(self.figures, rows):
                counts[at] += 1
                rows = torn_off(self.figures, rows, at)[1]
        return counts

    def ask(self, most=20000):
        """The layers, the torn pairs and the rows left; all of it is kept then."""
        if not self.asked:
            self.check_ends(most, self.rows)
        layers, left = self.sweeps(self.rows)
        gone, rows, pairs, entries = [0] * len(self.rows), self.rows, [], []
        for at in [at for layer in layers for at in layer]:
            pair, rows = torn_off(self.figures, rows, at)
            pairs.append(pair)
            took = set()
            for pad, note, depth in self.figures[at]:
                took |= {(pad, gone[pad] + k) for k in range(depth)}
                gone[pad] += depth
            entries.append((at, took))
        self.found += len(entries) - len(self.kept)
        self.kept, self.asked = entries, True
        return layers, pairs, left

    def kept_behind_change(self, kept, pad, depth):
        dropped = [(pad, depth) in took for at, took in kept]
        for late, early in itertools.product(range(len(kept)), repeat=2):
            meeting = pads_of(self.figures[kept[late][0]]) & pads_of(self.figures[kept[early][0]])
            if early < late and meeting and dropped[early]:
                dropped[late] = True
        return [entry for entry, gone in zip(kept, dropped) if not gone]

    def do(self, deeds):
        """A list of deeds as one step."""
        rows, kept = self.rows, self.kept
        for deed in deeds:
            rows = self.behind(rows, deed)
            if deed[0] == "change":
                kept = self.kept_behind_change(kept, deed[1], deed[2])
            elif deed[0] != "write":
                kept = []
        self.past.append(self.rows)
        self.future = []
        self.rows, self.kept = rows, kept
        self.asked = self.asked and not deeds

    def undo(self):
        if not self.past:
            raise Refusal("NothingBack")
        self.future.append(self.rows)
        self.rows, self.kept, self.asked = self.past.pop(), [], False

    def redo(self):
        if not self.future:
            raise Refusal("NothingAgain")
        self.past.append(self.rows)
        self.rows, self.kept, self.asked = self.future.pop(), [], False

    def behind(self, rows, deed):
        sizes = {"put": 3, "write": 3, "change": 4, "reset": 4, "lay": 3, "tear": 2, "sweep": 1, "settle": 1}
        if not deed or sizes.get(deed[0]) != len(deed):
            raise Refusal("BadDeed")
        return getattr(self, "do_" + deed[0])(list(rows), *deed[1:])

    def check_pad(self, pad):
        if pad not in range(len(self.colours)):
            raise Refusal("NoPad", pad)

    def check_figure(self, figure):
        if figure not in range(len(self.figures)):
            raise Refusal("NoFigure", figure)

    def is_note(self, pad, note):
        return note in range(self.colours[pad])

    def check_note(self, pad, note):
        if not self.is_note(pad, note):
            raise Refusal("BadNote", note)

    def on_top(self, rows, pad, notes):
        rows[pad] = plain_least(list(notes) + list(rows[pad][0]), rows[pad][1])
        if len(rows[pad][0]) > 400:
            raise Refusal("Full", pad)

    def do_put(self, rows, pad, note):
        self.check_pad(pad)
        self.check_note(pad, note)
        self.on_top(rows, pad, [note])
        return rows

    def do_write(self, rows, pad, notes):
        self.check_pad(pad)
        if rows[pad][1]:
            raise Refusal("NoEnd", pad)
        for note in notes:
            self.check_note(pad, note)
        rows[pad] = (rows[pad][0] + tuple(notes), ())
        if len(rows[pad][0]) > 400:
            raise Refusal("Full", pad)
        return rows

    def do_change(self, rows, pad, depth, note):
        self.check_pad(pad)
        if not 0 <= depth <= 399 or len(unrolled(*rows[pad], depth + 1)) <= depth:
            raise Refusal("NoNote", depth)
        self.check_note(pad, note)
        taken, rest = torn_row(rows[pad], depth + 1)
        rows[pad] = plain_least(taken[:-1] + (note,) + rest[0], rest[1])
        return rows

    def do_reset(self, rows, pad, lead, turn):
        self.check_pad(pad)
        good = all(self.is_note(pad, note) for note in list(lead) + list(turn))
        if len(lead) > 400 or len(turn) > 12 or not good:
            raise Refusal("BadRow", pad)
        rows[pad] = plain_least(lead, turn)
        return rows

    def do_lay(self, rows, figure, beneath):
        self.check_figure(figure)
        shape = self.figures[figure]
        if len(beneath) != len(shape):
            raise Refusal("BadBeneath")
        for (pad, note, depth), notes in zip(shape, beneath):
            if len(notes) != depth - 1 or not all(self.is_note(pad, some) for some in notes):
                raise Refusal("BadBeneath")
        for (pad, note, depth), notes in zip(shape, beneath):
            self.on_top(rows, pad, [note, *notes])
        return rows

    def do_tear(self, rows, figure):
        self.check_figure(figure)
        if not stands(self.figures[figure], rows):
            raise Refusal("NotStanding", figure)
        return torn_off(self.figures, rows, figure)[1]

    def do_sweep(self, rows):
        for at in standing(self.figures, rows):
            rows = torn_off(self.figures, rows, at)[1]
        return rows

    def do_settle(self, rows):
        self.check_ends(20000, rows)
        return self.sweeps(rows)[1]


def chance_book(chance, pads=4, colours=3, figures=6):
    """A book of any figures that may stand beside one another."""
    palette = [chance.randint(1, colours) for _ in range(chance.randint(1, pads))]
    shapes = []
    for _ in range(chance.randint(0, 4 * figures)):
        some = sorted(chance.sample(range(len(palette)), chance.randint(1, min(3, len(palette)))))
        shape = tuple((pad, chance.randrange(palette[pad]), chance.choice((1, 1, 2, 3))) for pad in some)
        try:
            Book(palette, figures=shapes + [shape])
        except TearError:
            continue
        shapes = (shapes + [shape])[:figures]
    return Book(palette, figures=shapes)


def chance_row(chance, colours, lead=8, turn=3, rounds=0.3):
    """A row of any notes, perhaps with a round."""
    many = chance.randint(1, turn) if chance.random() < rounds else 0
    notes = [[chance.randrange(colours) for _ in range(size)] for size in (chance.randint(0, lead), many)]
    return notes[0], notes[1]


def chance_rows(chance, book, **sizes):
    return [chance_row(chance, colours, **sizes) for colours in book.colours()]


def odometer(sizes, lead=()):
    """A board on which each pad goes on by a note when the pads ahead of it have gone round: one figure a sweep.

    Its rows come again behind as many sweeps as the sizes of its rounds, multiplied, and the lead of the first pad.
    """
    many = len(sizes)
    figures = [tuple((pad, 1, 1) for pad in range(at)) + ((at, 0, 1),) for at in range(many)]
    book = Book([2] * many, figures=figures + [tuple((pad, 1, 1) for pad in range(many))])
    rows = [([], [0] * (size - 1) + [1]) for size in sizes]
    return Board(book, rows=[(list(lead), rows[0][1])] + rows[1:])


def seeded(seed):
    """A source of chance that gives the same each time."""
    return random.Random(seed)
