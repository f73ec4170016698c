"""Points 2 and 11: curls put in and taken out."""

import unittest

from loopcube.drawings import beside, cords, is_drawing, mirrored, names_of
from loopcube.errors import NoMove, NoPlace
from loopcube.moves import curled, uncurled
from models import curled_model, uncurled_model
from support import (
    CURL, SIXTY, TREFOIL, any_things, many_drawings, no_names, no_places, refused, told_as_own,
)

KINDS = [(sign, way) for sign in (1, -1) for way in ("under", "over")]


class Curled(unittest.TestCase):
    def test_into_a_ring(self):
        self.assertEqual(curled(([5], []), 5, 1, "under"), ([], [(1, 5, 6, 6, 5)]))
        self.assertEqual(curled(([5], []), 5, -1, "under"), ([], [(-1, 5, 6, 6, 5)]))
        self.assertEqual(curled(([5], []), 5, 1, "over"), ([], [(1, 6, 5, 5, 6)]))
        self.assertEqual(curled(([5], []), 5, -1, "over"), ([], [(-1, 6, 5, 5, 6)]))
        self.assertEqual(curled(([-7], []), -7, 1, "under"), ([], [(1, -7, -6, -6, -7)]))
        self.assertEqual(curled(([3, 9, 1], []), 9, 1, "under"), ([3, 1], [(1, 9, 10, 10, 9)]))
        self.assertEqual(curled(([3, 9, 1], []), 1, 1, "over"), ([3, 9], [(1, 10, 1, 1, 10)]))
        self.assertEqual(
            curled(([-4], CURL[1]), -4, -1, "over"), ([], [(1, 0, 1, 1, 0), (-1, 2, -4, -4, 2)])
        )

    def test_into_a_stretch(self):
        self.assertEqual(curled(CURL, 0, -1, "over"), ([], [(1, 3, 1, 1, 0), (-1, 2, 3, 0, 2)]))
        self.assertEqual(curled(CURL, 0, 1, "under"), ([], [(1, 3, 1, 1, 0), (1, 0, 2, 2, 3)]))
        self.assertEqual(curled(CURL, 1, 1, "under"), ([], [(1, 0, 1, 3, 0), (1, 1, 2, 2, 3)]))
        self.assertEqual(curled(([], [(1, -9, -5, -5, -9)]), -9, 1, "under"),
                         ([], [(1, -3, -5, -5, -9), (1, -9, -4, -4, -3)]))
        # The greatest name may be a ring's.
        self.assertEqual(curled(([8], CURL[1]), 1, -1, "over"), ([8], [(1, 0, 1, 10, 0), (-1, 9, 10, 1, 9)]))
        self.assertEqual(
            curled(([SIXTY], CURL[1]), 1, 1, "under"),
            ([SIXTY], [(1, 0, 1, SIXTY + 2, 0), (1, 1, SIXTY + 1, SIXTY + 1, SIXTY + 2)]),
        )

    def test_everywhere(self):
        for drawing in many_drawings(40, 20):
            for name in names_of(drawing):
                for sign, way in KINDS:
                    told = curled(drawing, name, sign, way)
                    self.assertEqual(told, curled_model(drawing, name, sign, way))
                    self.assertTrue(is_drawing(told))
                    self.assertEqual(len(cords(told)), len(cords(drawing)))

    def test_own(self):
        for drawing in many_drawings(25, 21):
            for name in names_of(drawing)[:4] + drawing[0]:
                for sign, way in KINDS:
                    told_as_own(self, curled, drawing, name, sign, way)

    def test_names(self):
        for drawing in (([], []), ([1, 0, 5], []), TREFOIL, ([7], CURL[1]), ([0], [(1, 1, -1, -1, 1)])):
            for thing in no_names(drawing):
                for sign, way in KINDS:
                    refused(self, NoPlace, curled, drawing, thing, sign, way)
                refused(self, NoPlace, curled, drawing, thing, thing, thing)

    def test_signs_and_ways(self):
        for drawing, name in ((TREFOIL, 0), (CURL, 1), (([7], []), 7), (([1], []), 1)):
            for thing in any_things() + [3, -2, "+", "-", "1"]:
                if type(thing) is not int or thing not in (1, -1):
                    refused(self, NoPlace, curled, drawing, name, thing, "under")
                    refused(self, NoPlace, curled, drawing, name, thing, "over")
            for thing in any_things() + ["Under", "OVER", "u", "underover", ("under", "over"), ["under"]]:
                refused(self, NoPlace, curled, drawing, name, 1, thing)
                refused(self, NoPlace, curled, drawing, name, -1, thing)
                refused(self, NoPlace, curled, drawing, name, thing if thing not in (1, -1) else 0, thing)


class Uncurled(unittest.TestCase):
    def test_to_a_ring(self):
        self.assertEqual(uncurled(([], [(1, 5, 6, 6, 5)]), 0), ([5], []))
        self.assertEqual(uncurled(([], [(-1, 6, 5, 5, 6)]), 0), ([6], []))
        self.assertEqual(uncurled(CURL, 0), ([0], []))
        # Both ways round there is a curl, and the first is taken: the under in's name is left.
        self.assertEqual(uncurled(([], [(1, 1, 0, 0, 1)]), 0), ([1], []))
        self.assertEqual(uncurled(([9, -4], CURL[1]), 0), ([9, -4, 0], []))
        self.assertEqual(uncurled(([9], [(1, 0, 1, 1, 0), (1, 2, 3, 3, 2)]), 0), ([9, 0], [(1, 2, 3, 3, 2)]))
        self.assertEqual(uncurled(([9], [(1, 0, 1, 1, 0), (1, 2, 3, 3, 2)]), 1), ([9, 2], [(1, 0, 1, 1, 0)]))

    def test_to_a_stretch(self):
        under = ([], [(1, 3, 1, 1, 0), (1, 0, 2, 2, 3)])
        self.assertEqual(uncurled(under, 1), ([], [(1, 0, 1, 1, 0)]))
        self.assertEqual(uncurled(under, 0), ([], [(1, 3, 2, 2, 3)]))
        over = ([], [(1, 3, 1, 1, 0), (-1, 2, 3, 0, 2)])
        self.assertEqual(uncurled(over, 1), ([], [(1, 0, 1, 1, 0)]))
        self.assertEqual(uncurled(over, 0), ([], [(-1, 2, 3, 3, 2)]))

    def test_trefoil(self):
        for drawing in (TREFOIL, mirrored(TREFOIL), beside(([7], []), TREFOIL)):
            for k in range(3):
                refused(self, NoMove, uncurled, drawing, k)

    def test_at_each_place(self):
        met = set()
        for drawing in many_drawings(50, 22) + self.twice_curled():
            for k, (sign, under_in, under_out, over_in, over_out) in enumerate(drawing[1]):
                told = uncurled_model(drawing, k)
                met.add((under_out == over_in, over_out == under_in))
                if told is None:
                    refused(self, NoMove, uncurled, drawing, k)
                else:
                    self.assertEqual(told_as_own(self, uncurled, drawing, k), told)
                    self.assertTrue(is_drawing(told))
                    self.assertEqual(len(cords(told)), len(cords(drawing)))
        self.assertEqual(len(met), 4)

    def twice_curled(self):
        told = []
        for drawing in many_drawings(14, 23):
            for name in names_of(drawing)[:3]:
                for sign, way in KINDS:
                    once = curled(drawing, name, sign, way)
                    told.append(once)
                    told.append(curled(once, names_of(once)[-1], -sign, "over"))
                    told.append(curled(once, names_of(once)[-2], sign, "under"))
        return told

    def test_put_in_and_taken_out(self):
        for drawing in many_drawings(40, 24):
            for name in names_of(drawing):
                for sign, way in KINDS:
                    told = uncurled(curled(drawing, name, sign, way), len(drawing[1]))
                    if name not in drawing[0]:
                        self.assertEqual(told, drawing)
                    else:
                        # The ring is put last, by the name that the under in has.
                        top = names_of(drawing)[-1] + 1
                        others = [ring for ring in drawing[0] if ring != name]
                        self.assertEqual(told, (others + [name if way == "under" else top], drawing[1]))

    def test_places(self):
        for drawing in (([], []), ([3], []), CURL, TREFOIL, ([7], CURL[1] + [(-1, 3, 2, 2, 3)])):
            for thing in no_places(len(drawing[1])):
                refused(self, NoPlace, uncurled, drawing, thing)


if __name__ == "__main__":
    unittest.main()
