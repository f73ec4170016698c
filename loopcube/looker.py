"""Who looks at papers: whether they stand, by the words and the tables of both drawings alone.

Tables are looked at by their columns, dicts of the few numbers that are not 0.
"""

from loopcube.cube import Cube
from loopcube.sums import add_to, columns_of, summed
from loopcube.tables import is_table
from loopcube.wholes import is_whole
from loopcube.words import spans_of


def stands(one, other, paper):
    """Whether any list is a paper for both drawings, and all its sums hold."""
    cube, other_cube = Cube(one), Cube(other)
    spans = spans_of(list(cube.words) + list(other_cube.words))
    many = sum([greatest + 1 - least for least, greatest in spans.values()])
    if not isinstance(paper, list) or len(paper) != many:
        return False
    start = 0
    for weight, span in spans.items():
        words, other_words = cube.words_along(span, weight), other_cube.words_along(span, weight)
        rows = paper[start:start + len(words)]
        if not fit_along(rows, span[0], weight, sizes_of(words), sizes_of(other_words)):
            return False
        if not stand_along(rows, cube.columns_along(words), other_cube.columns_along(other_words)):
            return False
        start += len(rows)
    return True


def sizes_of(word_lists):
    """How many words there are ahead of the first list, none, and in each list."""
    return [0] + [len(words) for words in word_lists]


def fit_along(rows, least, weight, sizes, other_sizes):
    """Whether any things are the rows of one weight from the least height on, with tables of their sizes."""
    for at, row in enumerate(rows):
        if not isinstance(row, tuple) or len(row) != 6 or not is_at(row, least + at, weight):
            return False
        before, many = sizes[at], sizes[at + 1]
        other_before, other_many = other_sizes[at], other_sizes[at + 1]
        wanted = [(other_many, many), (many, other_many), (before, many), (other_before, other_many)]
        if not all(has_size(part, size) for part, size in zip(row[2:], wanted)):
            return False
    return True


def is_at(row, height, weight):
    """Whether a row begins with this height and weight."""
    return is_whole(row[0]) and is_whole(row[1]) and row[0] == height and row[1] == weight


def has_size(thing, size):
    """Whether any thing is a table of this height and width."""
    return is_table(thing) and (thing[0], thing[1]) == size


def stand_along(rows, outs, other_outs):
    """Whether all sums of one weight hold."""
    parts = [[columns_of(table) for table in row[2:]] for row in rows]
    # Behind the greatest height there are no words, so no columns.
    parts.append([[], [], [], []])
    ahead, other_ahead = [], []
    for at, (out, other_out) in enumerate(zip(outs, other_outs)):
        forth, back, fill, other_fill = parts[at]
        next_forth, next_back, next_fill, next_other_fill = parts[at + 1]
        if not goes_with(next_forth, out, other_out, forth) or not goes_with(next_back, other_out, out, back):
            return False
        if not is_filled(back, forth, ahead, fill, next_fill, out):
            return False
        if not is_filled(forth, back, other_ahead, other_fill, next_other_fill, other_out):
            return False
        ahead, other_ahead = out, other_out
    return True


def goes_with(onward, out, other_out, here):
    """Whether going out and then across is going across and then out."""
    return all(taken(onward, column) == taken(other_out, across) for column, across in zip(out, here))


def is_filled(there, here, ahead, fill, next_fill, out):
    """Whether going across and back differs from staying by what the fillings make."""
    for k, column in enumerate(here):
        left = taken(there, column)
        add_to(left, -1, taken(ahead, fill[k]))
        add_to(left, -1, taken(next_fill, out[k]))
        if left != {k: 1}:
            return False
    return True


def taken(columns, column):
    """A table times a column."""
    return summed([(number, columns[k]) for k, number in column.items()])
