"""A desk: it answers lines of words for a board."""

from tearboard.deeds import check_pad
from tearboard.errors import Missing, Stuck, TearError
from tearboard.texts import is_number, row_text

DONE = "done"
NOTHING = "none"
UNKNOWN = "what"

# Each line's first word, and how many numbers come behind it.
FORMS = (
    ("put", 2), ("change", 3), ("tear", 1), ("sweep", 0), ("settle", 0), ("undo", 0), ("redo", 0),
    ("stands", 0), ("heap", 0), ("left", 0), ("pad", 1), ("story", 1),
)


class Desk:
    """Answers lines for a board, that very one."""

    def __init__(self, board):
        self.ruled = board
        self.said = []

    def say(self, line):
        """The answer to a line."""
        self.said.append(line)
        word, *words = line.split(" ")
        if (word, len(words)) not in FORMS or not all([is_number(some) for some in words]):
            return UNKNOWN
        numbers = [int(some) for some in words]
        try:
            return answer(self.ruled, word, numbers)
        except (TearError, Missing, Stuck) as refusal:
            return f"no {refusal.word}"

    def board(self):
        """The very board."""
        return self.ruled

    def __len__(self):
        return len(self.said)


def undo(board):
    """Takes the last step back."""
    board.undo()
    return DONE


def redo(board):
    """Does the step again that was taken back last."""
    board.redo()
    return DONE


def standing_words(board):
    """The standing figures."""
    return words_of(board.standing())


def heap_words(board):
    """The text of the heap of what is torn."""
    return words_of([str(board.heap())])


def left_words(board):
    """The rows that are left."""
    return words_of([row_text(row) for row in board.left()])


def pad_words(board, pad):
    """The row of a pad."""
    check_pad(board.book(), pad)
    return row_text(board.rows()[pad])


def story_words(board, pad):
    """The story of the part that has this pad."""
    return words_of(board.story(pad))


ACTIONS = {
    "undo": undo, "redo": redo, "stands": standing_words, "heap": heap_words, "left": left_words, "pad": pad_words,
    "story": story_words,
}


def answer(board, word, numbers):
    """The answer to a word and numbers that are of a line's form; the board's refusals go through."""
    if word not in ACTIONS:
        board.do((word, *numbers))
        return DONE
    action = ACTIONS[word]
    return action(board, *numbers)


def words_of(things):
    """Several things with one blank between; none where there is nothing."""
    text = " ".join([str(thing) for thing in things])
    return NOTHING if text == "" else text
