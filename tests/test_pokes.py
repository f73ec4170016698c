"""Points 2 and 12: a cord poked over another one, and back."""

import itertools
import unittest

from loopcube.drawings import beside, closing, cords, is_drawing, mirrored, names_of, turned_about
from loopcube.errors import NoMove, NoPlace
from loopcube.moves import curled, poked, unpoked
from models import poked_model, unpoked_model
from support import (
    CURL, SIXTY, TREFOIL, any_things, corner_faces, many_drawings, no_names, no_places, piece_count, refused,
    told_as_own,
)

SIDES = ("left", "right")
PAIRS = list(itertools.product(SIDES, SIDES))
CLASPS = [([], [(sign, 9, 2, 2, 8), (-sign, 7, 9, 8, 7)]) for sign in (1, -1)]


def can_poke(drawing, e, side, f, other_side):
    """Whether the poke can be done, by the words of point 12."""
    if e == f:
        return False
    if e in drawing[0] or f in drawing[0]:
        return True
    if not hang_together(drawing, e, f):
        return True
    return any({(e, side), (f, other_side)} <= face for face in corner_faces(drawing[1]))


def hang_together(drawing, e, f):
    """Whether a crossing that joins both by force makes no fewer pieces."""
    bridge = (1, e, e, f, f)
    return piece_count(drawing[1] + [bridge]) == piece_count(drawing[1])


def no_sides():
    """Things of all kinds that are no side."""
    things = any_things() + ["Left", "RIGHT", "l", "leftright", ("left", "right"), ["left"]]
    return [thing for thing in things if thing not in SIDES]


class Poked(unittest.TestCase):
    def test_two_rings(self):
        told = {
            ("right", "left"): [(1, 7, 9, 2, 8), (-1, 9, 7, 8, 2)],
            ("left", "right"): [(-1, 7, 9, 2, 8), (1, 9, 7, 8, 2)],
            ("right", "right"): [(-1, 9, 7, 2, 8), (1, 7, 9, 8, 2)],
            ("left", "left"): [(1, 9, 7, 2, 8), (-1, 7, 9, 8, 2)],
        }
        for side, other_side in PAIRS:
            crossings = told[side, other_side]
            self.assertEqual(poked(([2, 7], []), 2, side, 7, other_side), ([], crossings))
            self.assertEqual(poked(([7, 2, 0], []), 2, side, 7, other_side), ([0], crossings))

    def test_ring_over_stretch(self):
        drawing = ([4], CURL[1])
        self.assertEqual(
            poked(drawing, 4, "right", 1, "left"),
            ([], [(1, 0, 1, 7, 0), (1, 1, 6, 4, 5), (-1, 6, 7, 5, 4)]),
        )
        self.assertEqual(
            poked(drawing, 4, "right", 0, "right"),
            ([], [(1, 7, 1, 1, 0), (-1, 6, 7, 4, 5), (1, 0, 6, 5, 4)]),
        )

    def test_stretch_over_ring(self):
        drawing = ([4], CURL[1])
        self.assertEqual(
            poked(drawing, 1, "right", 4, "left"),
            ([], [(1, 0, 1, 6, 0), (1, 4, 7, 1, 5), (-1, 7, 4, 5, 6)]),
        )
        self.assertEqual(
            poked(drawing, 1, "left", 4, "left"),
            ([], [(1, 0, 1, 6, 0), (1, 7, 4, 1, 5), (-1, 4, 7, 5, 6)]),
        )

    def test_two_stretches(self):
        # Between two crossings the stretch 2 is at the left, 3 at the right; both go up.
        self.assertEqual(
            poked(TREFOIL, 2, "right", 3, "left"),
            ([], [
                (1, 1, 2, 0, 3), (1, 9, 4, 7, 5), (1, 5, 0, 4, 1),
                (1, 3, 8, 2, 6), (-1, 8, 9, 6, 7),
            ]),
        )
        self.assertEqual(
            poked(TREFOIL, 3, "left", 2, "right"),
            ([], [
                (1, 1, 2, 0, 3), (1, 7, 4, 9, 5), (1, 5, 0, 4, 1),
                (-1, 2, 8, 3, 6), (1, 8, 9, 6, 7),
            ]),
        )
        self.assertEqual(
            poked(([], [(1, -9, -8, -8, -9)]), -9, "left", -8, "right"),
            ([], [(1, -6, -8, -4, -9), (-1, -8, -5, -9, -7), (1, -5, -4, -7, -6)]),
        )

    def test_greatest_names(self):
        self.assertEqual(
            poked(([SIXTY, 0], []), 0, "left", SIXTY, "left"),
            ([], [(1, SIXTY + 2, SIXTY, 0, SIXTY + 1), (-1, SIXTY, SIXTY + 2, SIXTY + 1, 0)]),
        )

    def test_everywhere(self):
        done, left_undone = 0, 0
        drawings = [drawing for drawing in many_drawings(60, 30) if len(names_of(drawing)) <= 12]
        for drawing in drawings + [beside(TREFOIL, CURL), ([50, 60], CURL[1])]:
            for e, f in itertools.product(names_of(drawing), repeat=2):
                for side, other_side in PAIRS:
                    if not can_poke(drawing, e, side, f, other_side):
                        refused(self, NoMove, poked, drawing, e, side, f, other_side)
                        left_undone += 1
                        continue
                    told = poked(drawing, e, side, f, other_side)
                    self.assertEqual(told, poked_model(drawing, e, side, f, other_side))
                    self.assertTrue(is_drawing(told), (drawing, e, side, f, other_side))
                    self.assertEqual(len(cords(told)), len(cords(drawing)))
                    done += 1
        self.assertGreater(done, 500)
        self.assertGreater(left_undone, 500)

    def test_own(self):
        for drawing in (([2, 7, 1], []), ([4], CURL[1]), beside(TREFOIL, CURL)):
            for e, f in itertools.permutations(names_of(drawing), 2):
                if can_poke(drawing, e, "left", f, "right"):
                    told_as_own(self, poked, drawing, e, "left", f, "right")

    def test_one_name(self):
        for drawing in (([2, 7], []), CURL, TREFOIL):
            for name in names_of(drawing):
                for side, other_side in PAIRS:
                    refused(self, NoMove, poked, drawing, name, side, name, other_side)

    def test_names(self):
        for drawing in (([], []), ([1, 0, 5], []), TREFOIL, ([7], CURL[1]), ([0], [(1, 1, -1, -1, 1)])):
            good = (names_of(drawing) + [3])[0]
            for thing in no_names(drawing):
                refused(self, NoPlace, poked, drawing, thing, "left", good, "right")
                refused(self, NoPlace, poked, drawing, good, "left", thing, "right")
                refused(self, NoPlace, poked, drawing, thing, "left", thing, "left")
                refused(self, NoPlace, poked, drawing, thing, thing, thing, thing)

    def test_sides(self):
        # Two stretches of one face and of none, a ring on either side, two rings, and one name twice.
        asked = [
            (TREFOIL, 2, 3), (TREFOIL, 0, 1), (([7], CURL[1]), 7, 0), (([7], CURL[1]), 0, 7), (([7, 5], []), 7, 5),
            (([7, 5], []), 7, 7), (TREFOIL, 2, 2),
        ]
        for drawing, e, f in asked:
            for thing in no_sides():
                for side in SIDES:
                    refused(self, NoPlace, poked, drawing, e, thing, f, side)
                    refused(self, NoPlace, poked, drawing, e, side, f, thing)
                refused(self, NoPlace, poked, drawing, e, thing, f, thing)


class Unpoked(unittest.TestCase):
    def test_poked_and_back(self):
        for drawing in [drawing for drawing in many_drawings(50, 31) if len(names_of(drawing)) <= 10]:
            rings, crossings = drawing
            many = len(crossings)
            for e, f in itertools.permutations(names_of(drawing), 2):
                for side, other_side in PAIRS:
                    if not can_poke(drawing, e, side, f, other_side):
                        continue
                    there = poked(drawing, e, side, f, other_side)
                    back = unpoked(there, many, many + 1)
                    others = [ring for ring in rings if ring not in (e, f)]
                    self.assertEqual(back[1], crossings)
                    self.assertEqual(back, unpoked_model(there, many, many + 1))
                    # Of rings that went both ways round the crossing told first has the name: of e it is e.
                    expected = others + [name for name in [e] if e in rings]
                    if f in rings:
                        expected.append(there[1][many][1])
                    self.assertEqual(back[0], expected)
                    if e not in rings and f not in rings:
                        self.assertEqual(unpoked(there, many + 1, many), drawing)

    def test_rings_by_name(self):
        alike = ([], [(1, 7, 9, 2, 8), (-1, 9, 7, 8, 2)])
        self.assertEqual(unpoked(alike, 0, 1), ([2, 7], []))
        self.assertEqual(unpoked(alike, 1, 0), ([8, 9], []))
        unlike = ([], [(-1, 9, 7, 2, 8), (1, 7, 9, 8, 2)])
        self.assertEqual(unpoked(unlike, 0, 1), ([2, 9], []))
        self.assertEqual(unpoked(unlike, 1, 0), ([8, 7], []))
        self.assertEqual(unpoked(([5], alike[1]), 0, 1), ([5, 2, 7], []))

    def test_over_out_is_under_in(self):
        # One cord that goes over twice, then under twice: all its crossings go, the over in's name is left.
        for clasp in CLASPS:
            self.assertTrue(is_drawing(clasp))
            self.assertEqual(unpoked(clasp, 0, 1), ([2], []))
            self.assertEqual(unpoked(clasp, 1, 0), ([2], []))
            self.assertEqual(unpoked(([5, 0], clasp[1]), 1, 0), ([5, 0, 2], []))

    def test_over_out_is_under_in_on_a_longer_cord(self):
        # A curl ahead of the over in: the over out is the under in, and all is joined to the over in.
        self.assertEqual(
            unpoked(([], [(-1, 9, 3, 2, 8), (1, 7, 9, 8, 7), (1, 3, 4, 4, 2)]), 0, 1), ([], [(1, 2, 4, 4, 2)])
        )
        # A curl behind the over out: the under out is the over in, and all is joined to the under in.
        self.assertEqual(
            unpoked(([], [(-1, 9, 2, 2, 8), (1, 7, 9, 8, 3), (1, 3, 4, 4, 7)]), 0, 1), ([], [(1, 7, 4, 4, 7)])
        )
        for clasp, sign, way in itertools.product(CLASPS, (1, -1), ("under", "over")):
            for name in names_of(clasp):
                drawing = curled(clasp, name, sign, way)
                for j, k in ((0, 1), (1, 0)):
                    # On the stretches 8 and 9 the curl stands between the two crossings.
                    if name in (8, 9):
                        refused(self, NoMove, unpoked, drawing, j, k)
                    else:
                        told = told_as_own(self, unpoked, drawing, j, k)
                        self.assertEqual(told, unpoked_model(drawing, j, k))
                        self.assertTrue(is_drawing(told))

    def test_each_pair(self):
        done, left_undone = 0, 0
        for drawing in many_drawings(60, 32) + self.poked_ones():
            for j, k in itertools.product(range(len(drawing[1])), repeat=2):
                told = unpoked_model(drawing, j, k)
                if told is None:
                    refused(self, NoMove, unpoked, drawing, j, k)
                    left_undone += 1
                else:
                    self.assertEqual(told_as_own(self, unpoked, drawing, j, k), told)
                    self.assertTrue(is_drawing(told))
                    self.assertEqual(len(cords(told)), len(cords(drawing)))
                    done += 1
        self.assertGreater(done, 100)
        self.assertGreater(left_undone, 100)

    def poked_ones(self):
        told = []
        for drawing in many_drawings(12, 33) + [closing(3, [1, -1, 2, -2]), closing(2, [1, -1])]:
            for e, f in itertools.permutations(names_of(drawing)[:5], 2):
                for side, other_side in PAIRS:
                    if can_poke(drawing, e, side, f, other_side):
                        there = poked(drawing, e, side, f, other_side)
                        told += [there, mirrored(turned_about(there))]
        return told[::5]

    def test_alike_signs(self):
        # A pair of cords that cross twice with one sign follow one another both ways.
        for letters in ([1, 1], [-1, -1]):
            drawing = closing(2, letters)
            refused(self, NoMove, unpoked, drawing, 0, 1)
            refused(self, NoMove, unpoked, drawing, 1, 0)

    def test_one_place_twice(self):
        for drawing in (CURL, TREFOIL, closing(2, [1, -1]), ([], [(1, 7, 9, 2, 8), (-1, 9, 7, 8, 2)])):
            for k in range(len(drawing[1])):
                refused(self, NoMove, unpoked, drawing, k, k)

    def test_that_do_not_follow(self):
        # Over follows but under doesn't, and neither does.
        refused(self, NoMove, unpoked, closing(3, [1, -2]), 0, 1)
        refused(self, NoMove, unpoked, closing(4, [1, -3]), 0, 1)
        refused(self, NoMove, unpoked, beside(CURL, mirrored(CURL)), 0, 1)

    def test_places(self):
        for drawing in (([], []), ([3], []), CURL, closing(2, [1, -1]), TREFOIL):
            for thing in no_places(len(drawing[1])):
                refused(self, NoPlace, unpoked, drawing, thing, 0)
                refused(self, NoPlace, unpoked, drawing, 0, thing)
                refused(self, NoPlace, unpoked, drawing, thing, thing)


if __name__ == "__main__":
    unittest.main()
