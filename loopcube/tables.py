"""Tables of whole numbers: (high, wide, rows)."""

from loopcube.errors import NoTable
from loopcube.wholes import are_wholes, is_whole


def is_table(thing):
    """Whether any thing is a table."""
    if not isinstance(thing, tuple) or len(thing) != 3:
        return False
    high, wide, rows = thing
    if not is_whole(high) or not is_whole(wide) or high < 0 or wide < 0:
        return False
    if not isinstance(rows, list) or len(rows) != high:
        return False
    return all(is_row(row, wide) for row in rows)


def is_row(thing, wide):
    """Whether any thing is a row of so many whole numbers."""
    return isinstance(thing, list) and len(thing) == wide and are_wholes(thing)


def unit(many):
    """The table with 1 on the way down from its first corner, and 0 elsewhere."""
    return (many, many, unit_rows(many))


def unit_rows(many):
    """The rows of a unit."""
    rows = [[0] * many for row in range(many)]
    for k in range(many):
        rows[k][k] = 1
    return rows


def nought(high, wide):
    """The table of 0 alone."""
    return (high, wide, [[0] * wide for row in range(high)])


def turned(one):
    """The table with the rows of the one as columns."""
    high, wide, rows = one
    return (wide, high, turned_rows(rows, wide))


def turned_rows(rows, wide):
    """The columns of the rows; the width is told because there may be no row to see it by."""
    return [[row[k] for row in rows] for k in range(wide)]


def plus(one, other):
    """The sum of two tables of one size."""
    refuse_others([one, other])
    high, wide, rows = one
    if (high, wide) != (other[0], other[1]):
        raise NoTable("the tables of a sum are of one height and width")
    return (high, wide, [plus_row(row, other_row) for row, other_row in zip(rows, other[2])])


def plus_row(row, other_row):
    """The sum of two rows."""
    return [number + more for number, more in zip(row, other_row)]


def many_times(number, one):
    """The table times a whole number."""
    refuse_others([one])
    if not is_whole(number):
        raise NoTable("a table is taken a whole number of times")
    high, wide, rows = one
    return (high, wide, [[number * entry for entry in row] for row in rows])


def product(one, other):
    """The first table times the second."""
    refuse_others([one, other])
    if one[1] != other[0]:
        raise NoTable("the first table of a product is as wide as the second is high")
    return (one[0], other[1], [row_times(row, other) for row in one[2]])


def row_times(row, other):
    """A row times a table."""
    total = [0] * other[1]
    for number, other_row in zip(row, other[2]):
        if number != 0:
            total = [have + number * entry for have, entry in zip(total, other_row)]
    return total


def refuse_others(things):
    """Sums, multiples and products are told of tables alone."""
    for thing in things:
        if not is_table(thing):
            raise NoTable("this is no table")
