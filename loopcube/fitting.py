"""Rows of tables, each times the one ahead of it a nought, with their sizes: whether they fit."""

from loopcube.errors import NoTable
from loopcube.tables import is_table, product
from loopcube.wholes import are_wholes


def refuse_no_row(sizes, tables):
    """Any things that are no sizes and no row of tables of these sizes are refused."""
    if not are_sizes(sizes) or not isinstance(tables, list) or len(sizes) != len(tables) + 1:
        raise NoTable("a row is a list of sizes and a list of one table fewer")
    for k, table in enumerate(tables):
        if not is_table(table) or (table[0], table[1]) != (sizes[k + 1], sizes[k]):
            raise NoTable("a table of a row is as wide as one size and as high as the next")
    for table, onward in zip(tables, tables[1:]):
        if leads_on(table, onward):
            raise NoTable("a table of a row times the one ahead is a nought")


def are_sizes(thing):
    """Whether any thing is a list of whole numbers from 0 on."""
    return isinstance(thing, list) and are_wholes(thing) and all(size >= 0 for size in thing)


def leads_on(table, onward):
    """Whether the second table times the first one is no nought."""
    # Through 0 it is one in any case; it is not made then, as it may be of any size.
    if table[0] == 0:
        return False
    return any(any(row) for row in product(onward, table)[2])
