"""Rows of tables whose groups are known, and sums of tables that the tests make themselves."""

import random


def times(one, other):
    """The rows of a product of two tables, by the words of it."""
    return [
        [sum(row[k] * other[2][k][j] for k in range(one[1])) for j in range(other[1])]
        for row in one[2]
    ]


def unit_table(many):
    """A unit."""
    return (many, many, [[int(i == k) for k in range(many)] for i in range(many)])


def undoable(chance, many, steps, most):
    """A table and the one that undoes it, made of steps that add one column to another."""
    rows, back = unit_table(many)[2], unit_table(many)[2]
    for step in range(steps if many > 1 else 0):
        i, j = chance.sample(range(many), 2)
        number = chance.randint(-most, most)
        for row in rows:
            row[j] += number * row[i]
        back[i] = [entry - number * more for entry, more in zip(back[i], back[j])]
    return (many, many, rows), (many, many, back)


def hidden_row(chance, free, numbers, steps, most):
    """Sizes and tables of a row whose groups are known, but whose numbers are not seen in it.

    free: how many are free at each size; numbers: by which each table leads, one for each column of its own.
    """
    leading = [len(each) for each in numbers] + [0]
    led = [0] + [len(each) for each in numbers]
    sizes = [sum(parts) for parts in zip(free, leading, led)]
    hides = [undoable(chance, size, steps, most) for size in sizes]
    tables = []
    for i, each in enumerate(numbers):
        rows = [[0] * sizes[i] for k in range(sizes[i + 1])]
        for k, number in enumerate(each):
            rows[k][led[i] + k] = number
        plain = (sizes[i + 1], sizes[i], rows)
        half = (sizes[i + 1], sizes[i], times(hides[i + 1][0], plain))
        tables.append((sizes[i + 1], sizes[i], times(half, hides[i][1])))
    return sizes, tables


CHAINS = [
    [], [1], [0], [2], [1, 1], [1, 2], [3, 3], [1, 1, 4], [2, 4, 8], [1, 5, 5, 0], [1, 1, 6, 12, 0, 0], [0, 0],
    [1, 7, 7 * 10 ** 20], [10 ** 59 + 9],
]


def known_rows(count=60, seed=80):
    """(sizes, tables, groups) of rows; each list of numbers divides along."""
    chance = random.Random(seed)
    told = []
    for turn in range(count):
        many = chance.randint(1, 4)
        numbers = [chance.choice(CHAINS) for k in range(many - 1)]
        free = [chance.choice([0, 0, 1, 2, 3]) for k in range(many)]
        steps, most = chance.choice([(0, 0), (3, 2), (12, 3), (25, 2), (8, 10 ** 9)])
        sizes, tables = hidden_row(chance, free, numbers, steps, most)
        groups = []
        for k in range(many):
            zeros = sum(each.count(0) for each in numbers[k:k + 1] + numbers[max(k - 1, 0):k])
            led = numbers[k - 1] if k else []
            groups.append((free[k] + zeros, [number for number in led if number > 1]))
        told.append((sizes, tables, groups))
    return told


def smith(rows):
    """The numbers other than 0 on the way down of the plain form, by the least entry each time."""
    rows = [list(row) for row in rows]
    found = []
    while any(any(row) for row in rows):
        size, i, j = min(
            (abs(entry), i, j) for i, row in enumerate(rows) for j, entry in enumerate(row) if entry
        )
        pivot = rows[i][j]
        for k, row in enumerate(rows):
            if k != i:
                number = row[j] // pivot
                rows[k] = [entry - number * more for entry, more in zip(row, rows[i])]
        rests = [entry % pivot for entry in rows[i]]
        if any(row[j] for k, row in enumerate(rows) if k != i):
            continue
        if any(rest for rest in rests):
            for k in range(len(rests)):
                if k != j:
                    number = rows[i][k] // pivot
                    for row in rows:
                        row[k] -= number * row[j]
            continue
        failing = [k for k, row in enumerate(rows) if k != i and any(entry % pivot for entry in row)]
        if failing:
            rows[i] = [entry + more for entry, more in zip(rows[i], rows[failing[0]])]
            continue
        found.append(size)
        rows = [row[:j] + row[j + 1:] for k, row in enumerate(rows) if k != i]
    return found


def broken_rows():
    """Things that are no sizes with a row of tables, as pairs."""
    one, wide, high = (1, 1, [[2]]), (1, 2, [[1, -1]]), (2, 1, [[1], [1]])
    told = [
        ([], []),
        ([1], [one]), ([1, 1, 1], [one]), ([], [one]), ([1, 1], []), ([0, 0], []),
        ([1, 2], [one]), ([2, 1], [one]), ([0, 1], [one]), ([1, 0], [one]), ([1, 2], [wide]), ([2, 1], [high]),
        ([-1], []), ([1, -1], [one]), ([-1, -1], [(0, 0, [])]), ([-1, 1], [one]),
        ([True], []), ([False], []), ([1, True], [one]), ([True, 1], [one]), ([0, False], [(0, 0, [])]),
        (["1"], []), ([None], []), ([[1]], []), ([(1,)], []), ([1, "1"], [one]), ([None, 1], [one]),
        ((1,), []), ([1], ()), ((1, 1), [one]), ([1, 1], (one,)), ((1,), ()), ("1", []), ([1], ""), (1, []), ([1], 1),
        (None, []), ([1], None), (None, None), (True, []), ([1], False), ([1, 1], one), ((), []), ([], ()), ("", ""),
        ([1, 1], [[1, 1, [[2]]]]), ([1, 1], [(1, 1, [(2,)])]), ([1, 1], [(1, 1, [[True]])]), ([1, 1], [(1, 1, [[None]])]),
        ([1, 1], [(1, 1, [["2"]])]), ([1, 1], [(1, 1)]), ([1, 1], [(1, 1, [[2]], 0)]), ([1, 1], [(1, 1, [[2, 3]])]),
        ([1, 1], [(1, 1, [[2], [3]])]), ([1, 1], [(1, 1, [])]), ([1, 1], [(True, 1, [[2]])]), ([1, 1], [None]),
        ([1, 1], [[[2]]]), ([1, 1], [2]), ([1, 1], [""]), ([1, 1], [()]), ([1, 1], [[]]), ([1, 1], [True]),
        ([1, 1, 1], [one, one]), ([1, 1, 1], [one, (1, 1, [[-1]])]), ([1, 2, 1], [high, (1, 2, [[1, 1]])]),
        ([2, 1, 2], [wide, high]), ([1, 1, 1, 1], [(1, 1, [[0]]), one, one]),
        ([1, 2, 1, 1], [high, wide, (1, 1, [[3]]), one]), ([1, 2, 2], [high, wide]), ([1, 1, 1], [high, wide]),
        ([1, 2, 1], [wide, high]), ([1, 2, 1], [high, high]),
        ([1, 1, 1], [(1, 1, [[10 ** 59]]), (1, 1, [[10 ** 59]])]),
    ]
    return told
