"""The plain form of a table, and its divisors.

Rows and columns are brought into steps by turns until only the way down is left. Each row is taken
in by itself, and behind each all entries over a first number are made less than it: so numbers stay
about as small as the table's own minors, which elimination without that order does not keep.
"""

from loopcube.ledger import Ledger
from loopcube.tables import turned_rows
from loopcube.wholes import common_divisor


def plain_form(one):
    """(left, left_back, plain, right, right_back): left times one times right is plain."""
    high, wide = one[0], one[1]
    left, right = reduced(one, True)
    return (
        (high, high, left.done),
        (high, high, turned_rows(left.undone, high)),
        (high, wide, left.rows),
        (wide, wide, turned_rows(right.done, wide)),
        (wide, wide, right.undone),
    )


def divisors(one):
    """The numbers on the way down of the plain form that are not 0."""
    # A table without rows may be of any width, and one without columns has no numbers either.
    if one[0] == 0 or one[1] == 0:
        return []
    left = reduced(one, False)[0]
    return numbers_down(left.rows, one[1])


def reduced(one, recorded):
    """The ledgers of the steps on rows and on columns; the rows of the first one are plain."""
    high, wide, rows = one
    left = Ledger([list(row) for row in rows], recorded)
    right = Ledger(turned_rows(rows, wide), recorded)
    into_steps(left, wide)
    while not is_straight(left.rows) or add_what_fails(left, wide):
        right.rows = turned_rows(left.rows, wide)
        into_steps(right, high)
        left.rows = turned_rows(right.rows, high)
        if not is_straight(left.rows):
            into_steps(left, wide)
    return left, right


def is_straight(rows):
    """Whether there is 0 but on the way down."""
    for k, row in enumerate(rows):
        if any(row[:k]) or any(row[k + 1:]):
            return False
    return True


def numbers_down(rows, wide):
    """The numbers on the way down that are not 0."""
    return [rows[k][k] for k in range(min(len(rows), wide)) if rows[k][k] != 0]


def add_what_fails(left, wide):
    """The rows of numbers that the first one fails to divide are added to its row, if one fails.

    Rows and columns then find a lesser number for it. Tells whether one failed.
    """
    numbers = numbers_down(left.rows, wide)
    for i, number in enumerate(numbers):
        failing = [j for j in range(i + 1, len(numbers)) if numbers[j] % number != 0]
        for j in failing:
            left.add_times(i, j, 1)
        if failing:
            return True
    return False


def into_steps(ledger, wide):
    """The first entry of each row then stands right of that of the row ahead; rows of 0 come last."""
    heads = {}
    for i in range(len(ledger.rows)):
        changed = take_in(ledger, heads, i, wide)
        if changed:
            lessen(ledger, heads, changed)
    order = [heads[column] for column in sorted(heads)]
    leading = {i: True for i in order}
    ledger.put_in_order(order + [i for i in range(len(ledger.rows)) if i not in leading])


def take_in(ledger, heads, i, wide):
    """Row i is cleared by the heads, or becomes one itself; tells the columns of heads that changed.

    Heads are the rows taken in so far, by the columns of their first entries.
    """
    changed = []
    for column in range(wide):
        number = ledger.rows[i][column]
        if number == 0:
            continue
        if column not in heads:
            heads[column] = i
            if number < 0:
                ledger.turn_sign(i)
            return changed + [column]
        if clear(ledger, heads[column], i, column):
            changed.append(column)
    return changed


def clear(ledger, head, i, column):
    """Row i gets 0 in the column, the head the common divisor; tells whether the head changed."""
    first, number = ledger.rows[head][column], ledger.rows[i][column]
    # A head that divides must stay as it is: else rows and columns could undo one another for ever.
    if number % first == 0:
        ledger.add_times(i, head, -(number // first))
        return False
    g, s, t = common_divisor(first, number)
    ledger.mix(head, i, s, t, -(number // g), first // g)
    return True


def lessen(ledger, heads, changed):
    """Entries over a head's first number become at most half of it, from the last head up.

    Only a head that changed, or that has too great an entry over one that did, can need it.
    """
    columns = sorted(heads)
    for at in reversed(range(len(columns))):
        i = heads[columns[at]]
        if columns[at] in changed or any(times_over(ledger, heads, i, column) for column in changed):
            for column in columns[at + 1:]:
                ledger.add_times(i, heads[column], -times_over(ledger, heads, i, column))


def times_over(ledger, heads, i, column):
    """How many times the head of the column goes into row i there, to the nearest."""
    first = ledger.rows[heads[column]][column]
    return (2 * ledger.rows[i][column] + first) // (2 * first)
