"""Points 2 and 5: the plain form and the divisors."""

import itertools
import math
import random
import unittest

from loopcube.plainform import divisors, plain_form
from loopcube.tables import is_table, nought, product, turned, unit
from support import SIXTY, told_as_own


def random_table(chance, high, wide, most=9):
    return (high, wide, [[chance.randint(-most, most) for k in range(wide)] for row in range(high)])


def way_down(high, wide, numbers):
    table = nought(high, wide)
    for k, number in enumerate(numbers):
        table[2][k][k] = number
    return table


def hidden(chance, table, steps):
    """The table behind so many steps that can be undone."""
    high, wide, rows = table[0], table[1], [list(row) for row in table[2]]
    for step in range(steps):
        rows = disturbed(chance, rows, high)
        columns = disturbed(chance, [list(column) for column in turned((high, wide, rows))[2]], wide)
        rows = turned((wide, high, columns))[2]
    return (high, wide, rows)


def disturbed(chance, rows, many):
    way = chance.randrange(3)
    if many < 2 or way == 0:
        i = chance.randrange(max(many, 1))
        return [[-entry for entry in row] if k == i else row for k, row in enumerate(rows)]
    i, j = chance.sample(range(many), 2)
    if way == 1:
        rows[i], rows[j] = rows[j], rows[i]
    else:
        times = chance.choice([-2, -1, 1, 2])
        rows[i] = [entry + times * more for entry, more in zip(rows[i], rows[j])]
    return rows


def determinant(rows):
    """By the first row: good for small ones."""
    if not rows:
        return 1
    return sum(
        (-1) ** k * rows[0][k] * determinant([row[:k] + row[k + 1:] for row in rows[1:]])
        for k in range(len(rows)) if rows[0][k]
    )


def divisors_by_minors(table):
    """The greatest common divisors of the minors of each size, each by the one ahead."""
    high, wide, rows = table
    told, ahead = [], 1
    for size in range(1, min(high, wide) + 1):
        common = 0
        for some in itertools.combinations(range(high), size):
            for columns in itertools.combinations(range(wide), size):
                common = math.gcd(common, determinant([[rows[i][j] for j in columns] for i in some]))
        if common == 0:
            break
        told.append(common // ahead)
        ahead = common
    return told


class PlainForm(unittest.TestCase):
    def setUp(self):
        self.chance = random.Random(5)

    def look(self, table):
        """All that point 5 says of the five tables; tells the divisors."""
        high, wide = table[0], table[1]
        told = plain_form(table)
        self.assertIsInstance(told, tuple)
        self.assertEqual(len(told), 5)
        left, left_back, plain, right, right_back = told
        for one, size in zip(told, [(high, high), (high, high), (high, wide), (wide, wide), (wide, wide)]):
            self.assertTrue(is_table(one))
            self.assertEqual((one[0], one[1]), size)
        self.assertEqual(product(left, left_back), unit(high))
        self.assertEqual(product(left_back, left), unit(high))
        self.assertEqual(product(right, right_back), unit(wide))
        self.assertEqual(product(right_back, right), unit(wide))
        self.assertEqual(product(product(left, table), right), plain)
        numbers = [plain[2][k][k] for k in range(min(high, wide))]
        self.assertEqual(plain, way_down(high, wide, numbers))
        for number in numbers:
            self.assertGreaterEqual(number, 0)
        for number, after in zip(numbers, numbers[1:]):
            self.assertEqual(after if number == 0 else after % number, 0)
        told_divisors = divisors(table)
        self.assertIsInstance(told_divisors, list)
        self.assertEqual(told_divisors, [number for number in numbers if number != 0])
        self.assertEqual(divisors(turned(table)), told_divisors)
        return told_divisors

    def test_by_hand(self):
        self.assertEqual(self.look((2, 2, [[2, 4], [6, 8]])), [2, 4])
        self.assertEqual(self.look((2, 2, [[2, 0], [0, 3]])), [1, 6])
        self.assertEqual(self.look((3, 3, [[2, 4, 4], [-6, 6, 12], [10, -4, -16]])), [2, 6, 12])
        self.assertEqual(self.look((1, 1, [[-5]])), [5])
        self.assertEqual(self.look((2, 3, [[0, 0, 3], [0, 0, 0]])), [3])
        self.assertEqual(self.look((1, 3, [[6, 10, 15]])), [1])
        self.assertEqual(self.look((3, 1, [[6], [-10], [14]])), [2])
        self.assertEqual(self.look((3, 3, [[4, 0, 0], [0, 6, 0], [0, 0, 10]])), [2, 2, 60])

    def test_noughts_and_nothing(self):
        for high, wide in [(0, 0), (0, 3), (3, 0), (1, 1), (2, 3), (4, 2), (0, 40), (40, 0)]:
            self.assertEqual(self.look(nought(high, wide)), [])

    def test_units(self):
        for many in (1, 2, 5, 40):
            self.assertEqual(self.look(unit(many)), [1] * many)

    def test_all_small_tables(self):
        for entries in itertools.product(range(-2, 3), repeat=4):
            table = (2, 2, [list(entries[:2]), list(entries[2:])])
            self.assertEqual(self.look(table), divisors_by_minors(table))

    def test_divisors_by_minors(self):
        for most in (1, 2, 6, 30, 10 ** 9):
            for turn in range(30):
                high, wide = self.chance.randint(0, 4), self.chance.randint(0, 4)
                table = random_table(self.chance, high, wide, most)
                self.assertEqual(self.look(table), divisors_by_minors(table))

    def test_one_row_many_times(self):
        for high in (2, 5, 40):
            row = [self.chance.randint(-20, 20) * 6 for k in range(7)]
            table = (high, 7, [list(row) for k in range(high)])
            self.assertEqual(self.look(table), [math.gcd(*row)])

    def test_rows_that_are_one_list(self):
        row = [4, -6]
        self.assertEqual(self.look((3, 2, [row, row, row])), [2])
        self.assertEqual(row, [4, -6])

    def test_high_and_wide(self):
        for high, wide in [(1, 30), (30, 1), (3, 20), (20, 3), (10, 12), (60, 4), (4, 60), (400, 2), (2, 400)]:
            told = self.look(random_table(self.chance, high, wide))
            self.assertLessEqual(len(told), min(high, wide))

    def test_entries_of_many_figures(self):
        for high, wide in [(1, 1), (2, 2), (3, 5), (5, 3), (8, 8), (12, 12)]:
            self.look(random_table(self.chance, high, wide, SIXTY))
        table = random_table(self.chance, 3, 3, SIXTY)
        self.assertEqual(self.look(table), divisors_by_minors(table))

    def test_forty_rows_and_columns(self):
        for most in (1, 2, 9, 50):
            for high, wide in [(40, 40), (38, 43), (43, 38)]:
                self.look(random_table(self.chance, high, wide, most))
        few = [0] * 12 + [1, -1]
        self.look((40, 40, [[self.chance.choice(few) for k in range(40)] for row in range(40)]))
        self.look((40, 40, [[6 * self.chance.randint(-5, 5) for k in range(40)] for row in range(40)]))

    def test_forty_of_low_rank(self):
        for rank in (1, 7, 30):
            one, other = random_table(self.chance, 40, rank, 3), random_table(self.chance, rank, 40, 3)
            self.assertEqual(len(self.look(product(one, other))), rank)

    def test_what_was_told_is_handed_in_again(self):
        for table in plain_form(random_table(self.chance, 20, 20)):
            self.look(table)

    def test_numbers_come_out_again(self):
        for high, wide, numbers in [
            (3, 3, [1, 2, 4]), (4, 6, [2, 6, 12]), (6, 4, [1, 1, 5, 25]), (5, 5, [3, 3, 3, 3, 3]),
            (10, 10, [1, 1, 2, 2, 4, 12, 12, 60]), (1, 1, [7]), (2, 2, [SIXTY, SIXTY]),
            (40, 40, [1] * 10 + [2] * 10 + [6] * 10 + [12] * 5),
        ]:
            for steps in (0, 3, 10, 60):
                table = hidden(self.chance, way_down(high, wide, numbers), steps)
                self.assertEqual(self.look(table), numbers)

    def test_numbers_that_make_no_chain(self):
        for numbers in [[2, 3], [4, 6, 10], [6, 10, 15], [0, 5, 0, 2], [9, 3, 1], [-4, 6], list(range(1, 25))]:
            table = way_down(len(numbers), len(numbers), numbers)
            expected = self.look(table)
            positive = [abs(number) for number in numbers if number != 0]
            self.assertEqual(math.prod(expected), math.prod(positive))
            self.assertEqual(expected[-1], math.lcm(*positive))
            self.assertEqual(expected[0], math.gcd(*positive))
            self.assertEqual(self.look(hidden(self.chance, table, 15)), expected)

    def test_divisors_stay(self):
        for turn in range(40):
            high, wide = self.chance.randint(1, 6), self.chance.randint(1, 6)
            table = random_table(self.chance, high, wide, self.chance.choice([1, 4, 12]))
            told = self.look(table)
            self.assertEqual(self.look(hidden(self.chance, table, 8)), told)
            steps = plain_form(random_table(self.chance, high, high))[0]
            self.assertEqual(divisors(product(steps, table)), told)
            steps = plain_form(random_table(self.chance, wide, wide))[3]
            self.assertEqual(divisors(product(table, steps)), told)

    def test_own(self):
        for high, wide in [(0, 0), (0, 3), (3, 0), (1, 1), (2, 2), (3, 5), (5, 3), (6, 6)]:
            for make in (nought, lambda high, wide: random_table(self.chance, high, wide)):
                told_as_own(self, plain_form, make(high, wide))
                told_as_own(self, divisors, make(high, wide))
        told_as_own(self, plain_form, unit(4))


if __name__ == "__main__":
    unittest.main()
