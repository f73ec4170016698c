"""Points 2 and 4: tables."""

import random
import unittest

from loopcube.errors import NoTable
from loopcube.tables import is_table, many_times, nought, plus, product, turned, unit
from support import SIXTY, any_things, refused, told_as_own

SIZES = [(0, 0), (0, 3), (3, 0), (1, 1), (1, 4), (4, 1), (2, 3), (3, 2), (3, 3), (5, 4)]


def random_table(chance, high, wide, most=9):
    return (high, wide, [[chance.randint(-most, most) for k in range(wide)] for row in range(high)])


class IsTable(unittest.TestCase):
    def test_tables(self):
        good = [
            (0, 0, []), (0, 3, []), (3, 0, [[], [], []]), (1, 1, [[0]]), (1, 2, [[-1, 5]]),
            (2, 1, [[SIXTY], [-SIXTY]]), (2, 2, [[1, 2], [3, 4]]),
            (400, 1, [[k] for k in range(400)]), (1, 400, [list(range(400))]), (0, 400, []),
            (400, 0, [[] for k in range(400)]), (400, 400, [[SIXTY] * 400 for k in range(400)]),
        ]
        for thing in good:
            self.assertIs(is_table(thing), True)

    def test_one_list_as_several_rows_is_let_by(self):
        row = [1, 2]
        self.assertIs(is_table((2, 2, [row, row])), True)

    def test_what_is_near_a_table(self):
        bad = [
            (True, 1, [[0]]), (1, True, [[0]]), (False, 0, []), (0, False, []), (1, 1, [[True]]), (1, 1, [[False]]),
            (-1, 0, []), (0, -1, []), (-1, -1, []), (1, -1, [[]]), (1, 1, []), (0, 1, [[0]]), (1, 1, [[0], [0]]),
            (2, 2, [[1, 2], [3]]), (2, 2, [[1, 2], [3, 4, 5]]), (2, 2, [[1, 2], (3, 4)]), (2, 2, [(1, 2), [3, 4]]),
            (2, 2, ([1, 2], [3, 4])), [1, 1, [[0]]], (1, 1), (1, 1, [[0]], None), (1, 1, [[0]], []), ("1", 1, [[0]]),
            (1, None, [[0]]), (1, 1, [["0"]]), (1, 1, [[None]]), (1, 1, [[[0]]]), (1, 1, [0]), (1, 1, ["0"]),
            (1, 1, None), (1, 1, "0"), (0, 0, ()), (0, 0, ""), (0, 0, None), (1, 3, ["abc"]), (3, 0, ["", "", ""]),
            (2, 1, [[0], None]), (1, 1, [[(0,)]]), ([1], 1, [[0]]), ((1,), 1, [[0]]), (1, 2, [[1, True]]),
            (400, 1, [[k] for k in range(399)] + [[True]]), (1, 400, [[0] * 401]), (3, 0, [[], [], [0]]),
        ]
        for thing in bad:
            self.assertIs(is_table(thing), False, repr(thing)[:100])

    def test_any_thing(self):
        for thing in any_things():
            self.assertIs(is_table(thing), False, repr(thing))
        for thing in any_things():
            whole = isinstance(thing, int) and not isinstance(thing, bool)
            self.assertIs(is_table((1, 1, [[thing]])), whole, repr(thing))
            self.assertIs(is_table((thing, 0, [])), whole and thing == 0, repr(thing))
            self.assertIs(is_table((0, thing, [])), whole and thing >= 0, repr(thing))
            self.assertIs(is_table((0, 0, thing)), thing == [], repr(thing))
            self.assertIs(is_table((1, 0, [thing])), thing == [], repr(thing))

    def test_handed_in_stays(self):
        for thing in any_things() + [(2, 2, [[1, 2], [3, 4]])]:
            told_as_own(self, is_table, thing)


class Made(unittest.TestCase):
    def test_unit(self):
        self.assertEqual(unit(0), (0, 0, []))
        self.assertEqual(unit(1), (1, 1, [[1]]))
        self.assertEqual(unit(3), (3, 3, [[1, 0, 0], [0, 1, 0], [0, 0, 1]]))
        for many in (0, 1, 2, 7):
            table = told_as_own(self, unit, many)
            self.assertTrue(is_table(table))
            for i in range(many):
                for j in range(many):
                    self.assertEqual(table[2][i][j], 1 if i == j else 0)

    def test_nought(self):
        self.assertEqual(nought(2, 3), (2, 3, [[0, 0, 0], [0, 0, 0]]))
        for high, wide in SIZES:
            table = told_as_own(self, nought, high, wide)
            self.assertEqual(table, (high, wide, [[0] * wide for row in range(high)]))

    def test_turned(self):
        self.assertEqual(turned((2, 3, [[1, 2, 3], [4, 5, 6]])), (3, 2, [[1, 4], [2, 5], [3, 6]]))
        self.assertEqual(turned((0, 3, [])), (3, 0, [[], [], []]))
        self.assertEqual(turned((3, 0, [[], [], []])), (0, 3, []))
        self.assertEqual(turned((0, 0, [])), (0, 0, []))
        chance = random.Random(1)
        for high, wide in SIZES:
            table = random_table(chance, high, wide)
            told = told_as_own(self, turned, table)
            self.assertEqual(told, (wide, high, [[table[2][i][j] for i in range(high)] for j in range(wide)]))
            self.assertEqual(turned(told), table)


class Reckoned(unittest.TestCase):
    def setUp(self):
        self.chance = random.Random(4)

    def test_plus(self):
        one, other = (2, 2, [[1, -2], [3, 4]]), (2, 2, [[10, 20], [-30, SIXTY]])
        self.assertEqual(plus(one, other), (2, 2, [[11, 18], [-27, SIXTY + 4]]))
        self.assertEqual(plus((0, 3, []), (0, 3, [])), (0, 3, []))
        self.assertEqual(plus((2, 0, [[], []]), (2, 0, [[], []])), (2, 0, [[], []]))
        for high, wide in SIZES:
            one, other = (random_table(self.chance, high, wide) for k in range(2))
            rows = [[one[2][i][j] + other[2][i][j] for j in range(wide)] for i in range(high)]
            self.assertEqual(told_as_own(self, plus, one, other), (high, wide, rows))
        one = random_table(self.chance, 2, 3)
        self.assertEqual(plus(one, one), many_times(2, one))
        self.assertEqual(plus(one, nought(2, 3)), one)

    def test_many_times(self):
        self.assertEqual(many_times(-3, (2, 1, [[1], [-2]])), (2, 1, [[-3], [6]]))
        for number in (0, 1, -1, 7, SIXTY):
            for high, wide in SIZES:
                one = random_table(self.chance, high, wide)
                rows = [[number * one[2][i][j] for j in range(wide)] for i in range(high)]
                self.assertEqual(told_as_own(self, many_times, number, one), (high, wide, rows))

    def test_product(self):
        one, other = (2, 3, [[1, 2, 3], [0, -1, SIXTY]]), (3, 2, [[1, 0], [0, 1], [2, -1]])
        self.assertEqual(product(one, other), (2, 2, [[7, -1], [2 * SIXTY, -1 - SIXTY]]))
        for high in (0, 1, 2, 5):
            for inner in (0, 1, 3):
                for wide in (0, 1, 4):
                    one, other = random_table(self.chance, high, inner), random_table(self.chance, inner, wide)
                    rows = [
                        [sum(one[2][i][k] * other[2][k][j] for k in range(inner)) for j in range(wide)]
                        for i in range(high)
                    ]
                    self.assertEqual(told_as_own(self, product, one, other), (high, wide, rows))

    def test_product_through_nothing_is_nought(self):
        self.assertEqual(product((2, 0, [[], []]), (0, 3, [])), nought(2, 3))
        self.assertEqual(product((0, 0, []), (0, 4, [])), (0, 4, []))
        self.assertEqual(product((3, 0, [[], [], []]), (0, 0, [])), (3, 0, [[], [], []]))

    def test_product_with_units(self):
        one = random_table(self.chance, 3, 5)
        self.assertEqual(product(unit(3), one), one)
        self.assertEqual(product(one, unit(5)), one)
        told_as_own(self, product, unit(3), unit(3))

    def test_the_same_table_twice(self):
        one = random_table(self.chance, 3, 3)
        self.assertEqual(product(one, one)[2][0][0], sum(one[2][0][k] * one[2][k][0] for k in range(3)))
        told_as_own(self, product, one, one)
        told_as_own(self, plus, one, one)

    def test_sizes_that_do_not_fit(self):
        for high, wide in SIZES:
            for other_high, other_wide in SIZES:
                one, other = nought(high, wide), nought(other_high, other_wide)
                if (high, wide) != (other_high, other_wide):
                    refused(self, NoTable, plus, one, other)
                if wide != other_high:
                    refused(self, NoTable, product, one, other)

    def test_what_is_no_table(self):
        for thing in any_things() + [(1, 1, [[True]]), (1, 1, [(0,)]), (True, 1, [[0]])]:
            refused(self, NoTable, plus, thing, unit(1))
            refused(self, NoTable, plus, unit(1), thing)
            refused(self, NoTable, product, thing, unit(1))
            refused(self, NoTable, product, unit(1), thing)
            refused(self, NoTable, many_times, 2, thing)
            if not isinstance(thing, int) or isinstance(thing, bool):
                refused(self, NoTable, many_times, thing, unit(1))


if __name__ == "__main__":
    unittest.main()
