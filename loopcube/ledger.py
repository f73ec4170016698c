"""Rows under steps that can be undone, with a record of the steps."""

from loopcube.tables import unit_rows


class Ledger:
    """Rows, and beside them the table of all steps so far and the one that undoes them.

    The table that undoes is kept turned, so that each step changes rows only. Without a record
    both tables are left empty, which saves most of the work.
    """

    def __init__(self, rows, recorded):
        self.rows = rows
        self.done = first_record(len(rows), recorded)
        self.undone = first_record(len(rows), recorded)

    def add_times(self, i, j, number):
        """Row i gets row j so many times."""
        if number != 0:
            self.rows[i] = with_times(self.rows[i], number, self.rows[j])
            self.done[i] = with_times(self.done[i], number, self.done[j])
            self.undone[j] = with_times(self.undone[j], -number, self.undone[i])

    def mix(self, i, j, a, b, c, d):
        """Rows i and j become a of i and b of j, and c of i and d of j; a times d less b times c is 1."""
        mix_rows(self.rows, i, j, a, b, c, d)
        mix_rows(self.done, i, j, a, b, c, d)
        mix_rows(self.undone, i, j, d, -c, -b, a)

    def turn_sign(self, i):
        """Row i is taken -1 times."""
        self.rows[i] = [-entry for entry in self.rows[i]]
        self.done[i] = [-entry for entry in self.done[i]]
        self.undone[i] = [-entry for entry in self.undone[i]]

    def put_in_order(self, order):
        """The rows are changed about: first comes the one that the order names first, and so on."""
        self.rows = [self.rows[k] for k in order]
        self.done = [self.done[k] for k in order]
        self.undone = [self.undone[k] for k in order]


def first_record(many, recorded):
    """The record ahead of all steps."""
    if recorded:
        return unit_rows(many)
    return [[] for k in range(many)]


def with_times(row, number, other_row):
    """The row and so many times the other one."""
    return [entry + number * more for entry, more in zip(row, other_row)]


def mix_rows(rows, i, j, a, b, c, d):
    """Rows i and j become a of i and b of j, and c of i and d of j."""
    one, other = rows[i], rows[j]
    rows[i] = [a * entry + b * more for entry, more in zip(one, other)]
    rows[j] = [c * entry + d * more for entry, more in zip(one, other)]
