"""Rows of notes: a lead, and behind it a round again and again for ever."""

from tearboard.errors import NoNote

MOST_LEAD = 400
MOST_ROUND = 12


def least_row(lead, turn):
    """The pair (lead, round) of the same notes with the shortest round, and with that the shortest lead."""
    if len(turn) == 0:
        return tuple(lead), ()
    least = shortest_round(tuple(turn))
    spare = spare_notes(lead, least)
    # Each note that moves from the lead into the round turns the round back by one.
    start = -spare % len(least)
    return tuple(lead[:len(lead) - spare]), least[start:] + least[:start]


def note_at(row, depth):
    """The note of a row at a depth from the top, counted from 0."""
    lead, turn = row
    if 0 <= depth < len(lead):
        return lead[depth]
    if depth < 0 or len(turn) == 0:
        raise NoNote(depth)
    return turn[(depth - len(lead)) % len(turn)]


def behind(row, many):
    """The least row that is left behind so many notes from the top."""
    lead, turn = row
    if many <= len(lead):
        return least_row(lead[max(many, 0):], turn)
    if len(turn) == 0:
        raise NoNote(len(lead))
    start = (many - len(lead)) % len(turn)
    return least_row((), turn[start:] + turn[:start])


def shortest_round(turn):
    """The shortest tuple that makes a round of one note or more by being repeated."""
    sizes = [size for size in range(1, len(turn) + 1) if repeats(turn, size)]
    return turn[:min(sizes)]


def repeats(turn, size):
    """Whether the round is its first notes, so many, a whole number of times."""
    return len(turn) % size == 0 and turn[:size] * (len(turn) // size) == turn


def spare_notes(lead, turn):
    """How many notes at the end of the lead the round, going back from its end, would tell as well."""
    spare = 0
    while spare < len(lead) and lead[-1 - spare] == turn[(-1 - spare) % len(turn)]:
        spare += 1
    return spare
