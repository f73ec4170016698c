"""Dicts of whole numbers other than 0, as rows or columns that have few of them, and their sums."""

from loopcube.tables import turned_rows


def add_to(numbers, times, more):
    """The numbers of a dict get those of another one so many times; none of them is 0 then."""
    for key, number in more.items():
        total = numbers.get(key, 0) + times * number
        if total != 0:
            numbers[key] = total
        else:
            numbers.pop(key, None)


def summed(parts):
    """The sum of dicts of numbers, each taken as many times as is told with it."""
    told = {}
    for times, numbers in parts:
        add_to(told, times, numbers)
    return told


def columns_of(table):
    """The columns of a table as dicts from the rows' places to the numbers that are not 0."""
    high, wide, rows = table
    return [
        {k: number for k, number in enumerate(column) if number != 0}
        for column in turned_rows(rows, wide)
    ]
