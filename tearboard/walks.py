"""Walks: the sweeps of a board's parts till nothing stands there or the rows come again."""

from tearboard.errors import NeverClear, TooFar
from tearboard.places import Course, part_with, places_behind

ENDS = "ends"
AGAIN = "again"
FAR = "far"


class Walks:
    """The walks of the parts on some rows; each is gone once, and anew only where a greater bound asks for more."""

    def __init__(self, book, rows):
        self.owner = book
        self.ground = rows
        self.gone = {}

    def walk(self, part, most):
        """How sweeping a part goes, the first sweeps and all of them, as walked tells it."""
        known = self.gone.get(part[0], (FAR, 0, (), 0))
        if known[0] == FAR and known[3] <= most:
            known = walked(self.owner, self.ground, part, most)
            self.gone[part[0]] = known
        end, first, sweeps, torn = known
        return (FAR if torn > most else end), first, sweeps

    def sweeps_till_clear(self, part, most):
        """The list of the sweeps of a part till it is clear."""
        end, first, sweeps = self.walk(part, most)
        if end == AGAIN:
            raise NeverClear(part[0])
        if end == FAR:
            raise TooFar(most)
        return sweeps

    def sweeps_behind(self, part, kept, most):
        """The list of the sweeps of a part behind those of its figures that are kept, a beginning, till it is clear."""
        ahead = [figure for figure in kept if self.owner.shape(figure)[0][0] in part]
        if len(ahead) > 0:
            end, first, sweeps, torn = walked(self.owner, self.ground, part, most, ahead)
            if end == ENDS:
                return sweeps
        # Which refusal goes is told by the walk on which nothing is kept.
        return self.sweeps_till_clear(part, most)


def walked(book, rows, part, most, ahead=()):
    """How sweeping a part on behind the figures torn ahead of it goes, and how many are torn, those ahead too.

    (ENDS, how many, sweeps, torn): nothing stands behind the sweeps. (AGAIN, first, sweeps, torn): behind them the rows
    are what they were behind the first ones. (FAR, 0, (), torn): they are more than most.
    """
    course = Course(book, rows, part)
    begun = places_behind(book, rows, [0] * len(rows), ahead)
    places = [begun[pad] for pad in part]
    torn = len(ahead)
    sweeps = []
    met = {}
    while torn <= most:
        first = met.setdefault(tuple(places), len(sweeps))
        if first < len(sweeps):
            return AGAIN, first, sweeps, torn
        standing = -1
        for tops, place in zip(course.tops, places):
            standing &= tops[place]
        if standing == 0:
            return ENDS, len(sweeps), sweeps, torn
        sweep, moves = course.plan(standing)
        sweeps.append(sweep)
        torn += len(sweep)
        for at, ways_on in moves:
            places[at] = ways_on[places[at]]
    return FAR, 0, (), torn


def story_of(walks, pad, most):
    """The story of the part that has this pad."""
    end, first, sweeps = walks.walk(part_with(walks.owner, pad), most)
    if end == FAR:
        raise TooFar(most)
    if end == ENDS:
        return ENDS, len(sweeps)
    return AGAIN, first, len(sweeps)


def board_sweeps(walks, most):
    """The list of what each sweep of the whole board tears till it is clear."""
    parts = [walks.sweeps_till_clear(part, most) for part in walks.owner.parts()]
    many = max([len(sweeps) for sweeps in parts])
    return [torn_at_once(parts, at) for at in range(many)]


def torn_at_once(parts, at):
    """The rising list of what all parts tear in the sweep with this number."""
    return sorted([figure for sweeps in parts for sweep in sweeps[at:at + 1] for figure in sweep])


def lacking(walks, kept, most):
    """The row of the figures that are torn behind a kept heap, a beginning, till the board is clear."""
    ahead = kept.row()
    parts = [walks.sweeps_behind(part, ahead, most) for part in walks.owner.parts()]
    return [figure for sweeps in parts for sweep in sweeps for figure in sweep]


def torn_counts(walks, many, most):
    """How often each figure is torn in so many sweeps of the whole board."""
    counts = [0] * len(walks.owner)
    for part in walks.owner.parts():
        end, first, sweeps = walks.walk(part, most)
        if end == FAR:
            raise TooFar(most)
        for sweep, times in sweep_times(first, sweeps, many):
            for figure in sweep:
                counts[figure] += times
    return counts


def sweep_times(first, sweeps, many):
    """Pairs of a sweep and how often it is done in so many, the sweeps behind the first ones coming again for ever."""
    again = len(sweeps) - first
    if again == 0 or many <= len(sweeps):
        return [(sweep, 1) for sweep in sweeps[:many]]
    whole, rest = divmod(many - first, again)
    ahead = [(sweep, 1) for sweep in sweeps[:first]]
    return ahead + [(sweep, whole + 1 if at < rest else whole) for at, sweep in enumerate(sweeps[first:])]
