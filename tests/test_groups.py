"""Points 2, 19, 20 and 22: groups of rows of tables and of drawings, and how they are put together."""

import itertools
import math
import random
import unittest

from loopcube.cube import table_at
from loopcube.drawings import beside, closing, face_at, mirrored, names_of, turned_about
from loopcube.errors import NoMove, NoTable, TooMany
from loopcube.groups import gathered, groups_of, products, row_groups
from loopcube.moves import curled, poked, slid, uncurled, unpoked
from loopcube.words import places, words_at
from models import groups_model
from rows import broken_rows, known_rows, smith
from support import (
    CURL, SIXTY, TREFOIL, any_things, few_parts, many_curls, refused, reordered, shuffled_names, told_as_own, too_many,
)

NOTHING = {(0, 0): (1, [])}
RING = {(0, -1): (1, []), (0, 1): (1, [])}
HOOKED = {(0, 0): (1, []), (0, 2): (1, []), (2, 4): (1, []), (2, 6): (1, [])}
THREE = {(0, 1): (1, []), (0, 3): (1, []), (2, 5): (1, []), (3, 7): (0, [2]), (3, 9): (1, [])}
THREE_MIRRORED = {(0, -1): (1, []), (0, -3): (1, []), (-2, -5): (1, []), (-2, -7): (0, [2]), (-3, -9): (1, [])}
FOUR = {
    (-2, -5): (1, []), (-1, -3): (0, [2]), (-1, -1): (1, []), (0, -1): (1, []),
    (0, 1): (1, []), (1, 1): (1, []), (2, 3): (0, [2]), (2, 5): (1, []),
}
FOUR_ROUND = {
    (0, 2): (1, []), (0, 4): (1, []), (2, 6): (1, []), (3, 8): (0, [2]), (3, 10): (1, []),
    (4, 10): (1, []), (4, 12): (1, []),
}
THREE_RINGS_HOOKED = {
    (-3, -7): (1, []), (-2, -5): (2, [2]), (-2, -3): (1, []), (-1, -3): (0, [2, 2]), (-1, -1): (2, []),
    (0, -1): (4, []), (0, 1): (4, []), (1, 1): (2, []), (2, 3): (1, [2, 2]), (2, 5): (2, []),
    (3, 5): (0, [2]), (3, 7): (1, []),
}


class RowGroups(unittest.TestCase):
    def test_by_hand(self):
        self.assertEqual(row_groups([3], []), [(3, [])])
        self.assertEqual(row_groups([0], []), [(0, [])])
        self.assertEqual(row_groups([SIXTY], []), [(SIXTY, [])])
        self.assertEqual(row_groups([1, 1], [(1, 1, [[2]])]), [(0, []), (0, [2])])
        self.assertEqual(row_groups([1, 1], [(1, 1, [[-1]])]), [(0, []), (0, [])])
        self.assertEqual(row_groups([1, 1], [(1, 1, [[0]])]), [(1, []), (1, [])])
        self.assertEqual(row_groups([2, 3], [(3, 2, [[2, 0], [0, 6], [0, 0]])]), [(0, []), (1, [2, 6])])
        self.assertEqual(row_groups([2, 2], [(2, 2, [[4, 0], [0, 6]])]), [(0, []), (0, [2, 12])])
        self.assertEqual(row_groups([2, 2], [(2, 2, [[2, 0], [0, 3]])]), [(0, []), (0, [6])])
        self.assertEqual(
            row_groups([1, 2, 1], [(2, 1, [[2], [2]]), (1, 2, [[3, -3]])]), [(0, []), (0, [2]), (0, [3])]
        )

    def test_sizes_of_nought(self):
        self.assertEqual(row_groups([0, 0], [(0, 0, [])]), [(0, []), (0, [])])
        self.assertEqual(row_groups([2, 0, 3], [(0, 2, []), (3, 0, [[], [], []])]), [(2, []), (0, []), (3, [])])
        self.assertEqual(row_groups([0, 1, 0], [(1, 0, [[]]), (0, 1, [])]), [(0, []), (1, []), (0, [])])
        self.assertEqual(
            row_groups([SIXTY, 0, 2], [(0, SIXTY, []), (2, 0, [[], []])]), [(SIXTY, []), (0, []), (2, [])]
        )

    def test_many_figures(self):
        self.assertEqual(row_groups([1, 1], [(1, 1, [[-SIXTY]])]), [(0, []), (0, [SIXTY])])
        ten = 10 ** 59
        self.assertEqual(row_groups([2, 2], [(2, 2, [[ten, ten], [ten, ten + 1]])]), [(0, []), (0, [ten])])

    def test_known_rows(self):
        for sizes, tables, groups in known_rows():
            self.assertEqual(row_groups(sizes, tables), groups)

    def test_by_the_words(self):
        # Free and divisors by the divisors that the test finds itself.
        for sizes, tables, groups in known_rows(30, 81):
            found = [smith(table[2]) for table in tables]
            told = row_groups(sizes, tables)
            for k, (free, numbers) in enumerate(told):
                going = found[k] if k < len(tables) else []
                coming = found[k - 1] if k else []
                self.assertEqual(free, sizes[k] - len(going) - len(coming))
                self.assertEqual(numbers, [number for number in coming if number > 1])

    def test_of_a_drawing(self):
        for drawing in (TREFOIL, closing(3, [1, -2, 1, -2]), ([5, 3], []), ([], [])):
            told = {}
            for weight, (least, greatest) in places(drawing).items():
                sizes = [len(words_at(drawing, height, weight)) for height in range(least, greatest + 1)]
                tables = [table_at(drawing, height, weight) for height in range(least, greatest)]
                for at, group in enumerate(row_groups(sizes, tables)):
                    if group != (0, []):
                        told[least + at, weight] = group
            self.assertEqual(told, groups_of(drawing))

    def test_own(self):
        for sizes, tables, groups in known_rows(25, 82):
            told_as_own(self, row_groups, sizes, tables)

    def test_refused(self):
        for sizes, tables in broken_rows():
            refused(self, NoTable, row_groups, sizes, tables)

    def test_any_thing_refused(self):
        for thing in any_things():
            refused(self, NoTable, row_groups, thing, [(1, 1, [[2]])])
            refused(self, NoTable, row_groups, [1, 1], thing)
            refused(self, NoTable, row_groups, [1, 1], [thing])
            refused(self, NoTable, row_groups, [1, thing, 1], [(1, 1, [[2]]), (1, 1, [[2]])])
            if thing != []:
                refused(self, NoTable, row_groups, [1], thing)


class GroupsOf(unittest.TestCase):
    def test_known(self):
        self.assertEqual(groups_of(([], [])), NOTHING)
        self.assertEqual(groups_of(([5], [])), RING)
        self.assertEqual(groups_of(([5, -2], [])), {(0, -2): (1, []), (0, 0): (2, []), (0, 2): (1, [])})
        for many in range(1, 7):
            expected = {(0, many - 2 * k): (math.comb(many, k), []) for k in range(many + 1)}
            self.assertEqual(groups_of((list(range(many)), [])), expected)
        for letter in (1, -1):
            self.assertEqual(groups_of(closing(2, [letter])), RING)
        self.assertEqual(groups_of(closing(4, [1, -2, 3])), RING)
        self.assertEqual(groups_of(closing(2, [1, 1])), HOOKED)
        self.assertEqual(
            groups_of(closing(2, [-1, -1])), {(-height, -weight): group for (height, weight), group in HOOKED.items()}
        )
        self.assertEqual(groups_of(TREFOIL), THREE)
        self.assertEqual(groups_of(closing(2, [1, 1, 1])), THREE)
        self.assertEqual(groups_of(closing(2, [-1, -1, -1])), THREE_MIRRORED)
        self.assertEqual(groups_of(closing(3, [1, -2, 1, -2])), FOUR)
        self.assertEqual(groups_of(closing(2, [1, 1, 1, 1])), FOUR_ROUND)
        self.assertEqual(groups_of(closing(3, [1, -2, 1, -2, 1, -2])), THREE_RINGS_HOOKED)

    def test_undone_letters(self):
        self.assertEqual(groups_of(closing(2, [1, -1])), groups_of(([1, 2], [])))
        self.assertEqual(groups_of(closing(3, [1, 2, -2, 1, 1])), groups_of(closing(3, [1, 1, 1, 2, -2])))
        self.assertEqual(groups_of(closing(3, [1, 2, 1])), groups_of(closing(3, [2, 1, 2])))

    def test_by_the_model(self):
        told = [drawing for drawing in few_parts() if len(drawing[1]) <= 5][:40]
        for drawing in told:
            self.assertEqual(groups_of(drawing), groups_model(drawing))

    def test_none_is_empty(self):
        for drawing in few_parts():
            told = groups_of(drawing)
            self.assertTrue(told)
            for place, group in told.items():
                self.assertNotEqual(group, (0, []))
                self.assertIs(type(place), tuple)
                self.assertIs(type(group), tuple)
                self.assertIs(type(group[1]), list)

    def test_names_order_and_direction(self):
        chance = random.Random(83)
        for drawing in few_parts():
            told = groups_of(drawing)
            self.assertEqual(groups_of(shuffled_names(chance, drawing)), told)
            self.assertEqual(groups_of(reordered(chance, drawing)), told)
            self.assertEqual(groups_of(turned_about(drawing)), told)

    def test_mirrored(self):
        for drawing in few_parts():
            told, other = groups_of(drawing), groups_of(mirrored(drawing))
            asked = set(told) | set(other)
            asked |= {(-height, -weight) for height, weight in asked}
            asked |= {(1 - height, -weight) for height, weight in asked}
            for height, weight in asked:
                free, numbers = other.get((height, weight), (0, []))
                self.assertEqual(free, told.get((-height, -weight), (0, []))[0])
                self.assertEqual(numbers, told.get((1 - height, -weight), (0, []))[1])

    def test_many_pieces(self):
        # As many words as six parts can have.
        six = many_curls(6)
        self.assertEqual(groups_of(six), groups_of(([1, 2, 3, 4, 5, 6], [])))
        self.assertEqual(groups_of(mirrored(six)), groups_of(([1, 2, 3, 4, 5, 6], [])))
        self.assertEqual(groups_of(beside(many_curls(3), TREFOIL)), products(THREE, groups_of(([1, 2, 3], []))))

    def test_own(self):
        for drawing in few_parts()[:25]:
            told_as_own(self, groups_of, drawing)

    def test_too_many(self):
        for drawing in too_many():
            refused(self, TooMany, groups_of, drawing)

    def test_six_are_not_too_many(self):
        for drawing in (closing(2, [1] * 6), beside(TREFOIL, ([4, 3, 2], [])), beside(CURL, ([1, 2, 3, 4, 5], []))):
            self.assertEqual(len(drawing[0]) + len(drawing[1]), 6)
            self.assertTrue(groups_of(drawing))


class GroupsBehindMoves(unittest.TestCase):
    def small(self):
        return [drawing for drawing in few_parts() if names_of(drawing) and len(drawing[1]) <= 4]

    def test_curls(self):
        for drawing in self.small()[:25]:
            if len(drawing[0]) + len(drawing[1]) > 5:
                continue
            told = groups_of(drawing)
            for name in names_of(drawing)[:3]:
                for sign, way in itertools.product((1, -1), ("under", "over")):
                    after = curled(drawing, name, sign, way)
                    self.assertEqual(groups_of(after), told)
                    self.assertEqual(groups_of(uncurled(after, len(after[1]) - 1)), told)

    def test_pokes(self):
        done = 0
        for drawing in self.small():
            if len(drawing[0]) + len(drawing[1]) > 4:
                continue
            told = groups_of(drawing)
            names = names_of(drawing)
            for e, f in itertools.permutations(names[:3], 2):
                for side, other_side in itertools.product(("left", "right"), repeat=2):
                    try:
                        after = poked(drawing, e, side, f, other_side)
                    except NoMove:
                        continue
                    done += 1
                    self.assertEqual(groups_of(after), told)
                    self.assertEqual(groups_of(unpoked(after, len(after[1]) - 2, len(after[1]) - 1)), told)
        self.assertGreater(done, 100)

    def test_slides(self):
        done = 0
        for letters in itertools.product((1, -1), (2, -2), (1, -1), (0, 1, -2)):
            drawing = closing(3, [letter for letter in letters if letter])
            told = groups_of(drawing)
            for name in names_of(drawing):
                for side in ("left", "right"):
                    try:
                        after = slid(drawing, name, side)
                    except NoMove:
                        continue
                    done += 1
                    self.assertEqual(groups_of(after), told)
        self.assertGreater(done, 30)

    def test_six_behind_a_move(self):
        knot = closing(3, [1, -2, 1, -2])
        for after in (curled(knot, 0, 1, "over"), curled(curled(knot, 0, -1, "under"), 0, 1, "over")):
            self.assertEqual(groups_of(after), FOUR)
        face = face_at(TREFOIL, 0, "left")
        self.assertEqual(groups_of(poked(TREFOIL, *face[0], *face[1])), THREE)


class Gathered(unittest.TestCase):
    def test_by_hand(self):
        self.assertEqual(gathered([]), [])
        self.assertEqual(gathered([1]), [])
        self.assertEqual(gathered([1, 1, 1]), [])
        self.assertEqual(gathered([2]), [2])
        self.assertEqual(gathered([2, 3]), [6])
        self.assertEqual(gathered([3, 1, 2]), [6])
        self.assertEqual(gathered([4, 6]), [2, 12])
        self.assertEqual(gathered([6, 4, 1]), [2, 12])
        self.assertEqual(gathered([2, 2, 2]), [2, 2, 2])
        self.assertEqual(gathered([8, 2, 4]), [2, 4, 8])
        self.assertEqual(gathered([2, 3, 5, 7]), [210])
        self.assertEqual(gathered([12, 18, 10]), [2, 6, 180])
        self.assertEqual(gathered([SIXTY, SIXTY]), [SIXTY, SIXTY])
        self.assertEqual(gathered([SIXTY, 10 ** 59]), [SIXTY * 10 ** 59])

    def test_by_plain_forms(self):
        chance = random.Random(84)
        for turn in range(60):
            numbers = [chance.choice([1, 2, 3, 4, 6, 8, 9, 30, 49]) for k in range(chance.randint(0, 7))]
            rows = [[number if i == k else 0 for k in range(len(numbers))] for i, number in enumerate(numbers)]
            expected = [number for number in smith(rows) if number > 1]
            self.assertEqual(gathered(numbers), expected)
            chance.shuffle(numbers)
            self.assertEqual(gathered(numbers), expected)

    def test_each_divides_the_next(self):
        chance = random.Random(85)
        for turn in range(40):
            numbers = [chance.randint(1, 10 ** chance.choice([1, 2, 5, 60])) for k in range(chance.randint(0, 12))]
            told = gathered(numbers)
            self.assertNotIn(1, told)
            self.assertEqual(math.prod(told), math.prod(numbers))
            for number, onward in zip(told, told[1:]):
                self.assertEqual(onward % number, 0)

    def test_many(self):
        self.assertEqual(gathered([2, 3] * 200), [6] * 200)
        self.assertEqual(gathered(list(range(1, 5)) * 100), [2] * 100 + [12] * 100)

    def test_told_again(self):
        told = gathered([10 ** 59 + k for k in range(100)])
        self.assertEqual(gathered(told), told)

    def test_own(self):
        for numbers in ([], [1], [2, 3], [4, 6, 1], [SIXTY, 5]):
            told_as_own(self, gathered, numbers)


class Products(unittest.TestCase):
    def test_free(self):
        self.assertEqual(products(RING, RING), {(0, -2): (1, []), (0, 0): (2, []), (0, 2): (1, [])})
        self.assertEqual(products({(1, 2): (3, [])}, {(-4, 5): (2, [])}), {(-3, 7): (6, [])})

    def test_free_and_divisors(self):
        self.assertEqual(products({(1, 2): (2, [])}, {(3, 4): (0, [2, 6])}), {(4, 6): (0, [2, 2, 6, 6])})
        self.assertEqual(products({(3, 4): (0, [2, 6])}, {(1, 2): (2, [])}), {(4, 6): (0, [2, 2, 6, 6])})
        self.assertEqual(products({(0, 0): (1, [2])}, {(0, 0): (1, [])}), {(0, 0): (1, [2])})

    def test_two_divisors(self):
        # Once where heights come to it, once one below.
        self.assertEqual(products({(1, 2): (0, [4])}, {(3, 4): (0, [6])}), {(4, 6): (0, [2]), (3, 6): (0, [2])})
        self.assertEqual(products({(1, 2): (0, [4])}, {(3, 4): (0, [9])}), {})
        self.assertEqual(
            products({(0, 0): (0, [2, 4])}, {(0, -3): (0, [4, 8])}),
            {(0, -3): (0, [2, 2, 4, 4]), (-1, -3): (0, [2, 2, 4, 4])},
        )

    def test_all_together(self):
        self.assertEqual(
            products({(0, 0): (1, [2]), (1, 0): (0, [3])}, {(0, 0): (2, [6])}),
            {(0, 0): (2, [2, 2, 6, 6]), (1, 0): (0, [3, 3, 3]), (-1, 0): (0, [2])},
        )

    def test_with_nothing(self):
        for groups in ({}, NOTHING, RING, THREE, {(-3, -7): (0, [5])}):
            self.assertEqual(products(groups, {}), {})
            self.assertEqual(products({}, groups), {})
            self.assertEqual(products(groups, NOTHING), groups)
            self.assertEqual(products(NOTHING, groups), groups)

    def test_places_below_nought(self):
        self.assertEqual(products({(-3, -7): (0, [5])}, {(-1, 2): (1, [10])}), {(-4, -5): (0, [5, 5]), (-5, -5): (0, [5])})

    def test_beside(self):
        small = [drawing for drawing in few_parts() if len(drawing[0]) + len(drawing[1]) <= 3]
        chance = random.Random(86)
        for turn in range(40):
            one, other = chance.choice(small), chance.choice(small)
            self.assertEqual(products(groups_of(one), groups_of(other)), groups_of(beside(one, other)))
        self.assertEqual(products(THREE, THREE), groups_of(beside(TREFOIL, TREFOIL)))
        self.assertEqual(products(THREE, THREE_MIRRORED), groups_of(beside(TREFOIL, mirrored(TREFOIL))))
        self.assertIn(2, products(THREE, THREE)[5, 14][1])

    def test_own(self):
        for one, other in itertools.product((RING, THREE, {}, {(0, 0): (2, [2, 4]), (1, 0): (0, [4])}), repeat=2):
            told_as_own(self, products, one, other)
        handed = {(0, 0): (1, [2])}
        told_as_own(self, products, handed, handed)


if __name__ == "__main__":
    unittest.main()
