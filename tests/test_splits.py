"""Points 2 and 23: splits of rows of tables."""

import random
import unittest

from loopcube.cube import table_at
from loopcube.drawings import beside, closing
from loopcube.errors import NoTable
from loopcube.splits import split
from loopcube.tables import is_table
from loopcube.words import places, words_at
from rows import broken_rows, hidden_row, known_rows, times, unit_table
from support import CURL, SIXTY, TREFOIL, any_things, few_parts, refused, told_as_own


class Splits(unittest.TestCase):
    def look_at(self, sizes, tables, told):
        """Each sentence of the point."""
        self.assertIs(type(told), list)
        self.assertEqual(len(told), len(sizes))
        for i, (size, part) in enumerate(zip(sizes, told)):
            self.assertIs(type(part), tuple)
            base, back, marks = part
            for table in (base, back):
                self.assertTrue(is_table(table))
                self.assertEqual(table[:2], (size, size))
            self.assertEqual(times(base, back), unit_table(size)[2])
            self.assertEqual(times(back, base), unit_table(size)[2])
            self.assertIs(type(marks), list)
            self.assertEqual(len(marks), size)
            self.look_at_marks(sizes, tables, told, i)

    def look_at_marks(self, sizes, tables, told, i):
        base, back, marks = told[i]
        taken = times(tables[i], base) if i < len(tables) else []
        led_to = []
        for j, mark in enumerate(marks):
            column = [row[j] for row in taken]
            self.assertIs(type(mark), tuple)
            if mark[0] == "to":
                kind, k, number = mark
                self.assertIs(type(number), int)
                self.assertGreaterEqual(number, 1)
                self.assertEqual(column, [number * row[k] for row in told[i + 1][0][2]])
                self.assertEqual(told[i + 1][2][k], ("from", j, number))
                led_to.append((k, number))
                continue
            self.assertFalse(any(column))
            if mark[0] == "from":
                kind, k, number = mark
                self.assertEqual(told[i - 1][2][k], ("to", j, number))
                self.assertGreater(i, 0)
            else:
                self.assertEqual(mark, ("free",))
        led_to.sort()
        self.assertEqual(len(led_to), len({k for k, number in led_to}))
        for (k, number), (later, onward) in zip(led_to, led_to[1:]):
            self.assertEqual(onward % number, 0)

    def groups(self, told):
        """The groups that the marks tell."""
        return [
            (marks.count(("free",)), sorted(mark[2] for mark in marks if mark[0] == "from" and mark[2] > 1))
            for base, back, marks in told
        ]

    def test_by_hand(self):
        self.assertEqual(split([0], []), [((0, 0, []), (0, 0, []), [])])
        told = split([2], [])
        self.look_at([2], [], told)
        self.assertEqual(told[0][2], [("free",), ("free",)])
        told = split([1, 1], [(1, 1, [[-2]])])
        self.look_at([1, 1], [(1, 1, [[-2]])], told)
        self.assertEqual([marks for base, back, marks in told], [[("to", 0, 2)], [("from", 0, 2)]])
        told = split([1, 1], [(1, 1, [[0]])])
        self.assertEqual([marks for base, back, marks in told], [[("free",)], [("free",)]])

    def test_known_rows(self):
        for sizes, tables, groups in known_rows():
            told = split(sizes, tables)
            self.look_at(sizes, tables, told)
            self.assertEqual(self.groups(told), groups)

    def test_sizes_of_nought(self):
        for sizes, tables in (
            ([0, 0], [(0, 0, [])]),
            ([2, 0, 3], [(0, 2, []), (3, 0, [[], [], []])]),
            ([0, 1, 0], [(1, 0, [[]]), (0, 1, [])]),
            ([0, 2, 2, 0], [(2, 0, [[], []]), (2, 2, [[2, 3], [0, 5]]), (0, 2, [])]),
        ):
            self.look_at(sizes, tables, split(sizes, tables))

    def test_noughts_alone(self):
        sizes, tables = [2, 3, 1], [(3, 2, [[0, 0]] * 3), (1, 3, [[0, 0, 0]])]
        told = split(sizes, tables)
        self.look_at(sizes, tables, told)
        self.assertEqual(self.groups(told), [(2, []), (3, []), (1, [])])

    def test_numbers_that_do_not_divide_along(self):
        chance = random.Random(92)
        for numbers in ([[4, 6]], [[2, 3], [9, 6, 4]], [[1, 10, 4, 15]], [[5, 1, 1], [1, 7, 1], [2, 1, 9]]):
            for steps in (0, 4, 20):
                sizes, tables = hidden_row(chance, [1, 0, 2, 1][:len(numbers) + 1], numbers, steps, 2)
                self.look_at(sizes, tables, split(sizes, tables))

    def test_many_figures(self):
        chance = random.Random(93)
        for table in ((1, 1, [[-SIXTY]]), (2, 1, [[SIXTY], [SIXTY - 1]]), (1, 2, [[SIXTY, 10 ** 59]])):
            sizes = [table[1], table[0]]
            self.look_at(sizes, [table], split(sizes, [table]))
        for turn in range(10):
            high, wide = chance.randint(1, 5), chance.randint(1, 5)
            table = (high, wide, [[chance.randint(-SIXTY, SIXTY) for k in range(wide)] for row in range(high)])
            self.look_at([wide, high], [table], split([wide, high], [table]))
        sizes, tables = hidden_row(chance, [1, 2, 1], [[1, 3 * 10 ** 20], [2, 10 ** 30]], 8, 10 ** 6)
        self.look_at(sizes, tables, split(sizes, tables))

    def test_larger(self):
        chance = random.Random(94)
        sizes, tables = hidden_row(chance, [3, 2, 4], [[1] * 12 + [2] * 4, [1] * 10 + [3, 6]], 120, 2)
        self.look_at(sizes, tables, split(sizes, tables))

    def test_of_drawings(self):
        for drawing in few_parts()[:25] + [closing(2, [1] * 6), closing(3, [1, -2] * 3), beside(TREFOIL, CURL)]:
            for weight, (least, greatest) in places(drawing).items():
                sizes = [len(words_at(drawing, height, weight)) for height in range(least, greatest + 1)]
                tables = [table_at(drawing, height, weight) for height in range(least, greatest)]
                if max(sizes) <= 40:
                    self.look_at(sizes, tables, split(sizes, tables))

    def test_told_ones_handed_in_again(self):
        for sizes, tables, groups in known_rows(10, 95):
            for base, back, marks in split(sizes, tables):
                for table in (base, back):
                    again = split([table[0], table[0]], [table])
                    self.look_at([table[0], table[0]], [table], again)

    def test_own(self):
        for sizes, tables, groups in known_rows(25, 96):
            told_as_own(self, split, sizes, tables)
        one = (1, 1, [[0]])
        told_as_own(self, split, [1, 1, 1], [one, one])

    def test_refused(self):
        for sizes, tables in broken_rows():
            refused(self, NoTable, split, sizes, tables)

    def test_any_thing_refused(self):
        for thing in any_things():
            refused(self, NoTable, split, thing, [(1, 1, [[2]])])
            refused(self, NoTable, split, [1, 1], thing)
            refused(self, NoTable, split, [1, 1], [thing])
            if thing != []:
                refused(self, NoTable, split, [1], thing)


if __name__ == "__main__":
    unittest.main()
