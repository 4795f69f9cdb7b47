"""Judging rows of torn figures, orders of heaps and stories that somebody tells."""

from tearboard.deeds import check_pad
from tearboard.heaps import Heap
from tearboard.places import figures_of_part, part_with, places_behind, standing_at, stands_at
from tearboard.walks import AGAIN, ENDS

MOST_JUDGED = 500


def run_holds(board, row):
    """Whether the figures of a row, one by one, stand and are torn, and the board is clear then."""
    book = board.book()
    rows = board.rows()
    places = [0] * len(rows)
    for figure in row:
        if not is_figure_of(book, figure) or not stands_at(book.shape(figure), rows, places):
            return False
        places = places_behind(book, rows, places, [figure])
    return len(standing_at(list(enumerate(book.figures())), rows, places)) == 0


def order_holds(heap, row):
    """Whether a row of any numbers is an order of a heap."""
    book = heap.book()
    return all([is_figure_of(book, figure) for figure in row]) and Heap(book, row) == heap


def story_holds(board, pad, story):
    """Whether a story is told rightly of the pad's part, but that later need not be the least."""
    check_pad(board.book(), pad)
    word, *numbers = story
    if not all([0 <= number <= MOST_JUDGED for number in numbers]):
        return False
    if word == ENDS and len(numbers) == 1:
        many = numbers[0]
        return len(places_by_sweeps(board, pad, many + 1)) == many + 1
    if word == AGAIN and len(numbers) == 2:
        first, later = numbers
        told = places_by_sweeps(board, pad, later)
        # Every sweep that is told here tore something, so nothing more is asked of what was torn between.
        return first < later < len(told) and told[first] == told[later]
    return False


def is_figure_of(book, number):
    """Whether a figure of the book has this number."""
    return 0 <= number < len(book)


def places_by_sweeps(board, pad, most):
    """The list of the rows' places behind 0, 1, .. and at most so many sweeps of the pad's part that tear something."""
    book = board.book()
    rows = board.rows()
    figures = figures_of_part(book, part_with(book, pad))
    told = [[0] * len(rows)]
    sweep = standing_at(figures, rows, told[-1])
    while len(sweep) > 0 and len(told) <= most:
        told.append(places_behind(book, rows, told[-1], sweep))
        sweep = standing_at(figures, rows, told[-1])
    return told
