"""Words, tables and groups with a name left out: of words in which the loop with the name is marked."""

from loopcube.cube import Cube, led_table
from loopcube.drawings import refuse_no_name
from loopcube.groups import put_groups
from loopcube.openings import loops
from loopcube.words import refuse_too_many, spans_of, words_at


def words_without(drawing, name, height, weight):
    """The words with the name left out of a height and a weight, in order."""
    refuse_too_many(drawing)
    refuse_no_name(drawing, name)
    # The weight is one more than the word has with the name.
    return marked_words(drawing, name, words_at(drawing, height, weight - 1))


def marked_words(drawing, name, words):
    """Those words in which the loop that has the name is marked."""
    place_of = {}
    for opening, marks in words:
        if opening not in place_of:
            place_of[opening] = place_of_loop(drawing, opening, name)
    return [(opening, marks) for opening, marks in words if marks[place_of[opening]] == 1]


def place_of_loop(drawing, opening, name):
    """The place of the loop that has the name."""
    return [name in loop for loop in loops(drawing, opening)].index(True)


def table_without(drawing, name, height, weight):
    """The table by which words with the name left out lead to those of the next height."""
    columns = words_without(drawing, name, height, weight)
    return led_table(drawing, columns, words_without(drawing, name, height + 1, weight))


def groups_without(drawing, name):
    """The groups with the name left out, by (height, weight)."""
    refuse_too_many(drawing)
    refuse_no_name(drawing, name)
    cube = Cube(drawing)
    told = {}
    for weight, span in spans_of(list(cube.words)).items():
        word_lists = [marked_words(drawing, name, words) for words in cube.words_along(span, weight)]
        put_groups(told, cube, word_lists, span[0], weight + 1)
    return told
