"""Points 2, 6 and 7: of any thing it is told whether it is a drawing."""

import itertools
import random
import unittest

from loopcube.drawings import beside, closing, is_drawing, mirrored, turned_about
from support import (
    CURL, SIXTY, TREFOIL, any_things, corner_faces, many_drawings, piece_count, random_word, told_as_own,
)


def flat_by_corners(crossings):
    """As many faces as crossings and two more for each piece: one piece alone can have no more than its two."""
    return len(corner_faces(crossings)) == len(crossings) + 2 * piece_count(crossings)


class GoodDrawings(unittest.TestCase):
    def good(self, thing):
        self.assertIs(is_drawing(thing), True, repr(thing)[:200])

    def test_nothing_and_rings(self):
        self.good(([], []))
        self.good(([0], []))
        self.good(([3, -3, 0, SIXTY, -SIXTY], []))
        self.good((list(range(400)), []))

    def test_alike_names_in_a_crossing(self):
        self.good(CURL)
        self.good(([], [(-1, 0, 1, 1, 0)]))
        self.good(([], [(1, 0, 1, 1, 0), (-1, 5, 4, 4, 5)]))
        self.good(([7], [(1, -SIXTY, SIXTY, SIXTY, -SIXTY)]))

    def test_closings(self):
        chance = random.Random(2)
        for turn in range(60):
            self.good(closing(*random_word(chance, 20)))
        self.good(closing(6, [1, -2, 3, -4, 5] * 60))
        self.good(closing(6, [1, 3, 5]))

    def test_all_kinds(self):
        for drawing in many_drawings():
            self.good(drawing)
            self.assertTrue(flat_by_corners(drawing[1]))
            told_as_own(self, is_drawing, drawing)

    def test_each_piece_is_flat_by_itself(self):
        drawing = beside(beside(TREFOIL, CURL), ([2], [(-1, 1, 0, 0, 1)]))
        self.good(drawing)
        self.assertEqual(len(corner_faces(drawing[1])), 3 + 1 + 1 + 2 * 3)


class NoDrawings(unittest.TestCase):
    def bad(self, thing):
        self.assertIs(is_drawing(thing), False, repr(thing)[:200])

    def test_any_thing(self):
        for thing in any_things():
            self.bad(thing)
            told_as_own(self, is_drawing, thing)

    def test_any_thing_as_rings_or_crossings(self):
        for thing in any_things():
            whole = isinstance(thing, int) and not isinstance(thing, bool)
            rings = isinstance(thing, list) and all(isinstance(part, int) and part is not True for part in thing)
            self.assertIs(is_drawing((thing, [])), rings, repr(thing))
            self.assertIs(is_drawing(([], thing)), thing == [], repr(thing))
            self.assertIs(is_drawing(([thing], [])), whole, repr(thing))
            self.bad(([], [thing]))

    def test_any_thing_in_a_crossing(self):
        for thing in any_things():
            for place in range(5):
                crossing = list(CURL[1][0])
                crossing[place] = thing
                expected = isinstance(thing, int) and not isinstance(thing, bool) and thing == CURL[1][0][place]
                if place == 0 and not isinstance(thing, bool) and thing == -1:
                    expected = True
                self.assertIs(is_drawing(([], [tuple(crossing)])), expected, repr(crossing))

    def test_any_thing_as_a_name_twice(self):
        for thing in any_things():
            whole = isinstance(thing, int) and not isinstance(thing, bool) and thing != 1
            self.assertIs(is_drawing(([], [(1, thing, 1, 1, thing)])), whole, repr(thing))

    def test_signs(self):
        for sign in (0, 2, -2, True, False, None, "1", "+", SIXTY, (1,), [1]):
            self.bad(([], [(sign, 0, 1, 1, 0)]))

    def test_names_that_stand_wrongly(self):
        self.bad(([], [(1, 0, 1, 1, 2)]))
        self.bad(([], [(1, 0, 1, 2, 3)]))
        self.bad(([], [(1, 0, 0, 0, 0)]))
        self.bad(([], [(1, 0, 1, 0, 1)]))
        self.bad(([], [(1, 0, 1, 1, 0), (1, 0, 1, 1, 0)]))
        self.bad(([], [(1, 0, 1, 1, 0), (1, 2, 3, 3, 0)]))
        self.bad(([], [(1, 0, 1, 1, 0), (1, 2, 2, 2, 3)]))
        # Three times: once an in and twice an out.
        self.bad(([], [(1, 1, 2, 0, 3), (1, 3, 0, 2, 0)]))
        # Twice as an in, and twice as an out, but nowhere else.
        self.bad(([], [(1, 0, 1, 0, 1), (1, 2, 3, 3, 2)]))
        self.bad(([], [(1, 0, 2, 1, 2), (1, 3, 0, 3, 1)]))

    def test_rings(self):
        self.bad(([0], [(1, 0, 1, 1, 0)]))
        self.bad(([1, 5], [(1, 0, 1, 1, 0)]))
        self.bad(([5, 5], []))
        self.bad(([5, 6, 5], [(1, 0, 1, 1, 0)]))
        self.bad(([True], []))
        self.bad((["5"], []))
        self.bad(([None], []))
        self.bad(([[5]], []))
        self.bad(([(5,)], []))

    def test_shapes(self):
        crossing = (1, 0, 1, 1, 0)
        self.bad(([], [list(crossing)]))
        self.bad(([], [crossing[:4]]))
        self.bad(([], [crossing + (0,)]))
        self.bad(([], [crossing + (None,)]))
        self.bad(([], []) + ([],))
        self.bad((([],)))
        self.bad(([],))
        self.bad([[], []])
        self.bad(((), []))
        self.bad(([], ()))
        self.bad(([], (crossing,)))
        self.bad((((5,)), []))
        self.bad(([], [crossing, None]))
        self.bad(([], [crossing, ()]))
        self.bad([[], [crossing]])
        self.bad(None)

    def test_not_flat(self):
        self.bad(([], [(1, 0, 0, 1, 1)]))
        self.bad(([], [(-1, 0, 0, 1, 1)]))
        rings, crossings = TREFOIL
        for k in range(3):
            changed = list(crossings)
            changed[k] = (-1,) + crossings[k][1:]
            self.bad((rings, changed))

    def test_one_piece_that_is_not_flat_beside_others(self):
        for other in (CURL, TREFOIL, ([], [(1, 0, 1, 1, 0), (1, 2, 3, 3, 2)])):
            self.bad(([], [(1, 10, 10, 11, 11)] + other[1]))
            self.bad(([], other[1] + [(1, 10, 10, 11, 11)]))
        self.bad(([], [(1, 10, 10, 11, 11), (1, 20, 20, 21, 21)]))

    def test_all_with_up_to_three_crossings(self):
        for many in (1, 2, 3):
            ins = list(range(2 * many))
            found = 0
            for outs in itertools.permutations(ins):
                for signs in itertools.product((1, -1), repeat=many):
                    crossings = [
                        (signs[k], ins[2 * k], outs[2 * k], ins[2 * k + 1], outs[2 * k + 1]) for k in range(many)
                    ]
                    expected = flat_by_corners(crossings)
                    found += expected
                    self.assertIs(is_drawing(([], crossings)), expected, repr(crossings))
            self.assertGreater(found, 0)

    def test_changed_drawings(self):
        chance = random.Random(8)
        for drawing in many_drawings(40, 3):
            rings, crossings = drawing
            if not crossings:
                continue
            k = chance.randrange(len(crossings))
            self.bad((rings, crossings[:k] + crossings[k + 1:] + [crossings[k][:4] + (10 ** 70,)]))
            self.bad((rings + [crossings[k][1]], crossings))
            self.bad((rings, crossings + [crossings[k]]))
            turned = list(crossings)
            turned[k] = (-crossings[k][0],) + crossings[k][1:]
            self.assertIs(is_drawing((rings, turned)), flat_by_corners(turned))

    def test_of_no_drawing_none_is_made(self):
        self.bad(mirrored(([], [(1, 0, 0, 1, 1)])))
        self.bad(turned_about(([], [(1, 0, 0, 1, 1)])))


if __name__ == "__main__":
    unittest.main()
