"""The cube of openings: to which words a word leads, and the tables of that."""

from loopcube.openings import change_at, loops, next_opening
from loopcube.tables import nought
from loopcube.words import all_openings, all_words, words_at


def leads(drawing, word):
    """A dict from the words to which a word leads to their numbers, 1 or -1."""
    opening, marks = word
    return {onward: number for onward, number in words_behind(marks, ways_on(drawing, opening))}


def ways_on(drawing, opening):
    """For each place with 0: the next opening, how its loops come about, and the number."""
    before = loops(drawing, opening)
    ways = []
    for k, bit in enumerate(opening):
        if bit == 0:
            onward = next_opening(opening, k)
            change = change_at(drawing[1][k], before, loops(drawing, onward))
            number = 1 if sum(opening[:k]) % 2 == 0 else -1
            ways.append((onward, change, number))
    return ways


def words_behind(marks, ways):
    """The words, with their numbers, to which a word with these marks leads by these ways."""
    return [
        ((onward, new_marks), number)
        for onward, change, number in ways
        for new_marks in marks_behind(marks, change)
    ]


def marks_behind(marks, change):
    """The marks to which marks lead where loops are joined or parted."""
    if change[0] == "joined":
        i, j, k = change[1:]
        others = marks[:i] + marks[i + 1:j] + marks[j + 1:]
        return [others[:k] + (mark,) + others[k:] for mark in joined_marks(marks[i], marks[j])]
    k, i, j = change[1:]
    others = marks[:k] + marks[k + 1:]
    # The other loops stay in their order, so the two new ones are just put between them.
    return [
        others[:i] + (first,) + others[i:j - 1] + (second,) + others[j - 1:]
        for first, second in parted_marks(marks[k])
    ]


def joined_marks(one, other):
    """The marks of the loop that two loops with these marks are joined into."""
    if one == 1 and other == 1:
        return []
    return [one + other]


def parted_marks(mark):
    """The pairs of marks of the two loops that a loop with this mark is parted into."""
    if mark == 1:
        return [(1, 1)]
    return [(0, 1), (1, 0)]


def table_at(drawing, height, weight):
    """The table by which the words of a height and a weight lead to those of the next height."""
    columns = words_at(drawing, height, weight)
    return led_table(drawing, columns, words_at(drawing, height + 1, weight))


def led_table(drawing, columns, rows):
    """The table of the numbers by which each column's word leads to each row's word."""
    ways = {}
    for opening, marks in columns:
        if opening not in ways:
            ways[opening] = ways_on(drawing, opening)
    told = nought(len(rows), len(columns))
    for at, column in enumerate(led_columns(ways, columns, rows)):
        for row, number in column.items():
            told[2][row][at] = number
    return told


def led_columns(ways, columns, rows):
    """For each column's word a dict from the places of the words to which it leads to the numbers."""
    row_of = {word: k for k, word in enumerate(rows)}
    return [
        {row_of[word]: number for word, number in words_behind(marks, ways[opening])}
        for opening, marks in columns
    ]


class Cube:
    """All words of a drawing by (height, weight), and the ways on from each opening, found once."""

    def __init__(self, drawing):
        self.words = all_words(drawing)
        self.ways = {opening: ways_on(drawing, opening) for opening in all_openings(drawing)}

    def words_along(self, span, weight):
        """The lists of words of a weight, one for each height from the least to the greatest of the span."""
        least, greatest = span
        return [self.words.get((height, weight), []) for height in range(least, greatest + 1)]

    def columns_along(self, word_lists):
        """The columns of the row of tables from each list of words to the next one; the last leads nowhere."""
        return [
            led_columns(self.ways, words, onward)
            for words, onward in zip(word_lists, word_lists[1:] + [[]])
        ]
