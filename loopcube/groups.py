"""Groups (free, divisors) of rows of tables and of drawings, and how they are put together."""

from loopcube.cube import Cube
from loopcube.fitting import refuse_no_row
from loopcube.plainform import divisors
from loopcube.splits import parts_of
from loopcube.wholes import common_divisor
from loopcube.words import spans_of


def row_groups(sizes, tables):
    """The groups of a row of tables, one for each size."""
    refuse_no_row(sizes, tables)
    found = [divisors(table) for table in tables]
    return [
        (size - len(going) - len(coming), above_one(coming))
        for size, going, coming in zip(sizes, found + [[]], [[]] + found)
    ]


def above_one(numbers):
    """The numbers above 1."""
    return [number for number in numbers if number > 1]


def groups_of(drawing):
    """The groups of a drawing by (height, weight)."""
    return groups_in(Cube(drawing))


def groups_in(cube):
    """The groups by (height, weight) of all words of a cube."""
    told = {}
    for weight, span in spans_of(list(cube.words)).items():
        put_groups(told, cube, cube.words_along(span, weight), span[0], weight)
    return told


def put_groups(told, cube, word_lists, least, weight):
    """The groups of words, a list for each height from the least on, are put to the dict."""
    for at, parts in enumerate(parts_of(cube.columns_along(word_lists))):
        group = marked_group([mark for mark, column, row in parts])
        if group != (0, []):
            told[(least + at, weight)] = group


def marked_group(marks):
    """The group that the marks of a split tell."""
    return (marks.count(("free",)), above_one([mark[2] for mark in marks if mark[0] == "from"]))


def gathered(numbers):
    """The divisors above 1 of the table that has these numbers, from 1 on, along its way."""
    chain = []
    for number in numbers:
        gather(chain, number)
    return list(reversed(chain))


def gather(chain, number):
    """A number is put to a chain in which each divides the one ahead of it."""
    for k, have in enumerate(list(chain)):
        if number == 1:
            return
        common = common_divisor(have, number)[0]
        chain[k] = have // common * number
        number = common
    if number > 1:
        chain.append(number)


def products(one, other):
    """The groups by (height, weight) of two drawings put beside one another, by those of both."""
    free, numbers = {}, {}
    for (height, weight), group in one.items():
        for (other_height, other_weight), other_group in other.items():
            place = (height + other_height, weight + other_weight)
            free[place] = free.get(place, 0) + group[0] * other_group[0]
            commons = common_divisors(group[1], other_group[1])
            numbers.setdefault(place, []).extend(group[1] * other_group[0] + other_group[1] * group[0] + commons)
            numbers.setdefault((place[0] - 1, place[1]), []).extend(commons)
    told = {place: (free.get(place, 0), gathered(numbers[place])) for place in sorted(numbers)}
    return {place: group for place, group in told.items() if group != (0, [])}


def common_divisors(numbers, others):
    """The greatest common divisors of each of the one and each of the other."""
    return [common_divisor(number, other)[0] for number in numbers for other in others]
