"""Points 2, 14 and 15: openings, their loops, and what becomes of these at the next opening."""

import unittest

from loopcube.drawings import beside, closing, mirrored, names_of
from loopcube.errors import NoPlace
from loopcube.openings import loops, turning
from models import all_openings, loops_model, turning_model
from support import CURL, SIXTY, TREFOIL, any_things, many_drawings, no_places, refused, told_as_own


def no_openings(many):
    """Things of all kinds that are no opening of so many crossings."""
    good = (0, 1) * (many + 1)
    told = [
        good[:many] + (0,), good[:many] + (1,), good[:many + 1], list(good[:many]), good[:many] + (None,),
        "01" * many, "", None, 0, 1, many, True, [], {}, (good[:many],), [good[:many]],
    ]
    if many > 0:
        told += [good[:many - 1], ()]
        for wrong in (2, -1, True, False, None, "0", "1", SIXTY, (0,), [1], [], ()):
            told += [good[:at] + (wrong,) + good[at + 1:many] for at in range(many)]
            told.append((wrong,) * many)
    else:
        told.append((0,))
    for thing in any_things():
        bits = isinstance(thing, tuple) and all(type(bit) is int and bit in (0, 1) for bit in thing)
        if not bits or len(thing) != many:
            told.append(thing)
    return told


def small_drawings():
    """Drawings with few crossings, of all kinds."""
    return [drawing for drawing in many_drawings(70, 60) if len(drawing[1]) <= 6] + [
        ([], [(1, -5, -9, -9, -5)]), ([-7], [(-1, -5, -9, -9, -5)]), ([SIXTY, -SIXTY], [(1, 3, 2, 2, 3)]),
        closing(3, [1, -2, 1, -2]), beside(mirrored(CURL), TREFOIL), closing(2, [1, 1, 1, 1, 1, 1]),
    ]


class Loops(unittest.TestCase):
    def test_no_crossings(self):
        self.assertEqual(loops(([], []), ()), [])
        self.assertEqual(loops(([5], []), ()), [[5]])
        self.assertEqual(loops(([7, -3, 0], []), ()), [[-3], [0], [7]])

    def test_curls(self):
        self.assertEqual(loops(CURL, (0,)), [[0], [1]])
        self.assertEqual(loops(CURL, (1,)), [[0, 1]])
        self.assertEqual(loops(([], [(-1, 0, 1, 1, 0)]), (0,)), [[0, 1]])
        self.assertEqual(loops(([], [(-1, 0, 1, 1, 0)]), (1,)), [[0], [1]])
        self.assertEqual(loops(([4, -2], [(1, 9, -5, -5, 9)]), (0,)), [[-5], [-2], [4], [9]])
        self.assertEqual(loops(([4, -2], [(1, 9, -5, -5, 9)]), (1,)), [[-5, 9], [-2], [4]])

    def test_trefoil(self):
        # Opened along the cords the two strands are left, each a loop.
        self.assertEqual(loops(TREFOIL, (0, 0, 0)), [[0, 2, 4], [1, 3, 5]])
        self.assertEqual(loops(TREFOIL, (1, 1, 1)), [[0, 1], [2, 3], [4, 5]])
        self.assertEqual(loops(TREFOIL, (1, 0, 0)), [[0, 1, 2, 3, 4, 5]])
        self.assertEqual(loops(TREFOIL, (0, 1, 1)), [[0, 1, 2, 3], [4, 5]])
        self.assertEqual(loops(mirrored(TREFOIL), (1, 1, 1)), [[0, 2, 4], [1, 3, 5]])
        self.assertEqual(loops(mirrored(TREFOIL), (0, 0, 0)), [[0, 1], [2, 3], [4, 5]])

    def test_all_openings(self):
        for drawing in small_drawings():
            for opening in all_openings(drawing):
                told = loops(drawing, opening)
                self.assertEqual(told, loops_model(drawing, opening))
                self.assertEqual(sorted(sum(told, [])), names_of(drawing))

    def test_many_crossings(self):
        drawing = closing(2, [1] * 200)
        self.assertEqual(loops(drawing, (0,) * 200), loops_model(drawing, (0,) * 200))
        self.assertEqual(len(loops(drawing, (1,) * 200)), 200)

    def test_own(self):
        for drawing in small_drawings()[:30]:
            for opening in all_openings(drawing)[:5]:
                told_as_own(self, loops, drawing, opening)

    def test_no_opening(self):
        for drawing in (([], []), ([7], []), CURL, ([5], CURL[1]), closing(2, [1, -1]), TREFOIL):
            for thing in no_openings(len(drawing[1])):
                refused(self, NoPlace, loops, drawing, thing)


class Turning(unittest.TestCase):
    def test_curls(self):
        self.assertEqual(turning(CURL, (0,), 0), ("joined", 0, 1, 0))
        self.assertEqual(turning(([], [(-1, 0, 1, 1, 0)]), (0,), 0), ("parted", 0, 0, 1))
        self.assertEqual(turning(([4, -2], [(1, 9, -5, -5, 9)]), (0,), 0), ("joined", 0, 3, 0))
        self.assertEqual(turning(([4, -2], [(-1, 9, -5, -5, 9)]), (0,), 0), ("parted", 0, 0, 3))
        self.assertEqual(turning(([-8], [(-1, 9, -5, -5, 9)]), (0,), 0), ("parted", 1, 1, 2))

    def test_trefoil(self):
        self.assertEqual(turning(TREFOIL, (0, 0, 0), 1), ("joined", 0, 1, 0))
        self.assertEqual(turning(TREFOIL, (1, 0, 0), 1), ("parted", 0, 0, 1))
        self.assertEqual(turning(TREFOIL, (0, 1, 1), 0), ("parted", 0, 0, 1))
        self.assertEqual(turning(TREFOIL, (1, 0, 1), 1), ("parted", 1, 1, 2))

    def test_all_openings(self):
        met = set()
        for drawing in small_drawings():
            for opening in all_openings(drawing):
                for k, bit in enumerate(opening):
                    if bit == 1:
                        refused(self, NoPlace, turning, drawing, opening, k)
                    else:
                        told = turning(drawing, opening, k)
                        self.assertEqual(told, turning_model(drawing, opening, k))
                        met.add(told)
        self.assertGreater(len(met), 20)

    def test_own(self):
        for drawing in small_drawings()[:30]:
            for k in range(len(drawing[1])):
                told_as_own(self, turning, drawing, (0,) * len(drawing[1]), k)

    def test_no_place(self):
        for drawing in (([], []), ([7], []), CURL, closing(2, [1, -1]), TREFOIL):
            many = len(drawing[1])
            for thing in no_places(many):
                for opening in ((0,) * many, (1,) * many, (0, 1, 0)[:many]):
                    refused(self, NoPlace, turning, drawing, opening, thing)

    def test_no_opening(self):
        for drawing in (([], []), ([7], []), CURL, ([5], CURL[1]), closing(2, [1, -1]), TREFOIL):
            for thing in no_openings(len(drawing[1])):
                for k in (0, len(drawing[1]) - 1, 5, None, thing):
                    refused(self, NoPlace, turning, drawing, thing, k)


if __name__ == "__main__":
    unittest.main()
