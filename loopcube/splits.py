"""Splits of a row of tables into what is free and what leads by one number to one other."""

from loopcube.fitting import refuse_no_row
from loopcube.lightrow import LightRow
from loopcube.plainform import numbers_down, plain_form
from loopcube.sums import columns_of, summed
from loopcube.tables import nought, product, unit


def split(sizes, tables):
    """For each size (base, back, marks): undoable tables, and what each column of base is led to and by."""
    refuse_no_row(sizes, tables)
    columns = [columns_of(table) for table in tables] + [[{} for place in range(sizes[-1])]]
    return [told_parts(parts) for parts in parts_of(columns)]


def told_parts(parts):
    """(base, back, marks) of one size's parts."""
    base, back = nought(len(parts), len(parts)), nought(len(parts), len(parts))
    for k, (mark, column, row) in enumerate(parts):
        for place, number in column.items():
            base[2][place][k] = number
        for place, number in row.items():
            back[2][k][place] = number
    return (base, back, [mark for mark, column, row in parts])


def parts_of(columns):
    """For each size of a row of columns its parts: (mark, column of base, row of back), as dicts."""
    light = LightRow(columns)
    light.lighten()
    sizes, tables = left_tables(light)
    told = []
    for i, (base, back, marks) in enumerate(split_by_forms(sizes, tables)):
        # Those that are led to by 1 come first, as 1 divides whatever number comes behind it.
        told.append(led_parts(light, i) + left_parts(light, i, base, back, marks) + leading_parts(light, i))
    return told


def led_parts(light, i):
    """The parts of one size that were taken out as led to."""
    if i == 0:
        return []
    start = len(light.pairs[i - 1]) + len(light.columns[i - 1])
    return [
        (("from", start + k, 1), led_base, led_back)
        for k, (base, back, led_base, led_back) in enumerate(light.pairs[i])
    ]


def leading_parts(light, i):
    """The parts of one size that were taken out as leading on."""
    return [
        (("to", k, 1), base, back)
        for k, (base, back, led_base, led_back) in enumerate(light.pairs[i + 1])
    ]


def left_parts(light, i, base, back, marks):
    """The parts of one size that were left, by the split of what was left."""
    places = list(light.columns[i])
    told = []
    for k, mark in enumerate(marks):
        column = summed([(base[2][at][k], light.base[i][place]) for at, place in enumerate(places)])
        row = summed([(back[2][k][at], light.back[i][place]) for at, place in enumerate(places)])
        told.append((moved_mark(light, i, mark), column, row))
    return told


def moved_mark(light, i, mark):
    """A mark of what was left, by the places that its columns have among all parts."""
    if mark[0] == "to":
        return ("to", mark[1] + len(light.pairs[i + 1]), mark[2])
    if mark[0] == "from":
        return ("from", mark[1] + len(light.pairs[i - 1]), mark[2])
    return mark


def left_tables(light):
    """The sizes and the tables of what is left."""
    places = [list(each) for each in light.columns]
    tables = []
    for i, (here, onward) in enumerate(zip(places, places[1:])):
        rows = [[light.columns[i][place].get(row, 0) for place in here] for row in onward]
        tables.append((len(onward), len(here), rows))
    return ([len(each) for each in places], tables)


def split_by_forms(sizes, tables):
    """A split by plain forms: of each table on those columns that no table ahead leads to."""
    told = []
    base, back, come = unit(sizes[0]), unit(sizes[0]), []
    for table in tables:
        led = len(come)
        out = product(table, base)
        rest = (out[0], out[1] - led, [row[led:] for row in out[2]])
        left, left_back, plain, right, right_back = plain_form(rest)
        numbers = numbers_down(plain[2], plain[1])
        leading = [("to", k, number) for k, number in enumerate(numbers)]
        told.append((
            changed_base(base, led, right),
            changed_back(back, led, right_back),
            with_free(come + leading, base[1]),
        ))
        base, back = left_back, left
        come = [("from", led + k, number) for k, number in enumerate(numbers)]
    told.append((base, back, with_free(come, base[1])))
    return told


def changed_base(base, led, right):
    """The base with its columns from a place on times a table."""
    many, wide, rows = base
    tail = product((many, wide - led, [row[led:] for row in rows]), right)
    return (many, wide, [row[:led] + new for row, new in zip(rows, tail[2])])


def changed_back(back, led, right_back):
    """What undoes a base: a table times its rows from a place on."""
    many, wide, rows = back
    tail = product(right_back, (many - led, wide, rows[led:]))
    return (many, wide, rows[:led] + tail[2])


def with_free(marks, many):
    """The marks, and behind them as many free ones as columns are left."""
    return marks + [("free",)] * (many - len(marks))
