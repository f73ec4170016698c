"""Points 2 and 13: three stretches slid over one another."""

import itertools
import random
import unittest

from loopcube.drawings import beside, closing, cords, face_at, is_drawing, mirrored, names_of, turned_about
from loopcube.errors import NoMove, NoPlace
from loopcube.moves import curled, slid
from models import can_slide_model, slid_model
from support import CURL, TREFOIL, any_things, corner_faces, many_drawings, no_names, refused, told_as_own

OTHER_SIDE = {"left": "right", "right": "left"}
BRAIDS = [
    (low, [first * low, second * high, third * low])
    for low, high in ((1, 2), (2, 1))
    for first, second, third in itertools.product((1, -1), repeat=3)
]


def cannot(letters):
    """Of the signs of 1 2 1 those don't allow a slide where each cord is over one and under the other."""
    signs = [1 if letter > 0 else -1 for letter in letters]
    return signs[0] == signs[2] != signs[1]


def same_but_names(one, other):
    """Whether a change of names leads from the one list of crossings to the other."""
    by = {}
    for crossing, other_crossing in zip(one, other):
        if crossing[0] != other_crossing[0]:
            return False
        for name, other_name in zip(crossing[1:], other_crossing[1:]):
            if by.setdefault(name, other_name) != other_name:
                return False
    return len(one) == len(other) and len(set(by.values())) == len(by)


def faces_between(drawing, at):
    """The faces whose corners are the three crossings from this place on, once at each."""
    found = []
    for face in corner_faces(drawing[1]):
        ends = sorted(
            k for name, side in face for k, crossing in enumerate(drawing[1]) for end in crossing[1:] if end == name
        )
        if len(face) == 3 and ends == sorted([at, at + 1, at + 2] * 2):
            found.append(face)
    return found


class Slid(unittest.TestCase):
    def look(self, drawing, face):
        """What is told at each stretch of a face that can be slid: one drawing."""
        expected = slid_model(drawing, face)
        for name, side in face:
            told = told_as_own(self, slid, drawing, name, side)
            self.assertEqual(told, expected)
            # The three then have their face at their other sides, and there it is undone.
            other = {(stretch, OTHER_SIDE[its_side]) for stretch, its_side in face}
            self.assertEqual(set(face_at(told, name, OTHER_SIDE[side])), other)
            self.assertEqual(slid(told, name, OTHER_SIDE[side]), drawing)
        self.assertTrue(is_drawing(expected))
        self.assertEqual(len(cords(expected)), len(cords(drawing)))
        self.assertEqual([crossing[0] for crossing in expected[1]], [crossing[0] for crossing in drawing[1]])
        return expected

    def test_by_hand(self):
        # Of 1 2 1 the stretch 3 leads from the first crossing to the third, 4 from the first to the
        # second, 5 from the second to the third; 3 has the others at its right.
        drawing = ([], [(1, 1, 3, 0, 4), (1, 2, 5, 4, 2), (1, 5, 0, 3, 1)])
        told = ([], [(1, 3, 1, 4, 2), (1, 5, 0, 0, 4), (1, 2, 5, 1, 3)])
        for name, side in ((3, "right"), (4, "left"), (5, "left")):
            self.assertEqual(slid(drawing, name, side), told)
            self.assertEqual(slid(told, name, OTHER_SIDE[side]), drawing)
        longer = [(1, 1, 3, 0, 4), (1, 2, 5, 4, 6), (1, 5, 7, 3, 8), (1, 8, 0, 7, 10), (1, 6, 1, 10, 2)]
        told = [(1, 3, 8, 4, 6), (1, 5, 7, 0, 4), (1, 2, 5, 1, 3), (1, 8, 0, 7, 10), (1, 6, 1, 10, 2)]
        self.assertTrue(is_drawing(([70, -5], longer)))
        self.assertEqual(slid(([70, -5], longer), 3, "right"), ([70, -5], told))

    def test_letters(self):
        for low, letters in BRAIDS:
            for ahead, behind in (([], []), ([1], []), ([-2], [1, -2]), ([2, 1], [-1]), ([1, 2, -1], [2, 2])):
                word = ahead + letters + behind
                drawing = closing(3, word)
                faces = faces_between(drawing, len(ahead))
                self.assertTrue(faces)
                if cannot(letters):
                    for face in faces:
                        for name, side in face:
                            refused(self, NoMove, slid, drawing, name, side)
                    continue
                other_word = ahead + self.changed(letters) + behind
                at = len(ahead)
                found = []
                for face in faces:
                    told = self.look(drawing, face)[1]
                    ordered = told[:at] + [told[at + 2], told[at + 1], told[at]] + told[at + 3:]
                    found.append(same_but_names(ordered, closing(3, other_word)[1]))
                self.assertIn(True, found)

    def changed(self, letters):
        """1 2 1 with its signs, as 2 1 2 the other way about."""
        first, second, third = letters
        swap = {1: 2, 2: 1}
        return [
            swap[abs(third)] * (third // abs(third)),
            swap[abs(second)] * (second // abs(second)),
            swap[abs(first)] * (first // abs(first)),
        ]

    def test_more_strands_and_pieces(self):
        done = 0
        for low, letters in BRAIDS:
            moved = [letter + (1 if letter > 0 else -1) for letter in letters]
            for drawing, at in (
                (closing(5, [1] + moved), 1),
                (beside(closing(3, letters), TREFOIL), 0),
                (beside(TREFOIL, closing(4, letters)), 3),
                (mirrored(closing(3, letters + [2])), 0),
                (turned_about(closing(3, letters + [-1])), 0),
            ):
                for face in faces_between(drawing, at):
                    if can_slide_model(drawing, face):
                        self.look(drawing, face)
                        done += 1
        self.assertGreaterEqual(done, 60)

    def test_every_face(self):
        why = {}
        chance = random.Random(41)
        drawings = many_drawings(60, 40)
        for drawing in many_drawings(30, 42):
            for turn in range(3):
                if names_of(drawing):
                    drawing = curled(drawing, chance.choice(names_of(drawing)), 1, chance.choice(["under", "over"]))
                    drawings.append(drawing)
        for drawing in drawings:
            for face in corner_faces(drawing[1]):
                if can_slide_model(drawing, face):
                    self.look(drawing, face)
                    kind = "slid"
                else:
                    for name, side in face:
                        refused(self, NoMove, slid, drawing, name, side)
                    kind = (len(face), len({name for name, side in face}))
                why[kind] = why.get(kind, 0) + 1
        # Faces that were slid, faces of one, two, three and four sides that weren't, and of one stretch twice.
        for kind in ("slid", (1, 1), (2, 2), (3, 3), (4, 4)):
            self.assertGreater(why.get(kind, 0), 2, (kind, why))

    def test_two_corners_at_one_crossing(self):
        # From the outside a curl upon a curl has three unlike stretches, but two crossings.
        met = 0
        for sign, way in itertools.product((1, -1), ("under", "over")):
            for name in (0, 1):
                drawing = curled(CURL, name, sign, way)
                for face in corner_faces(drawing[1]):
                    if len(face) == 3 and len({stretch for stretch, side in face}) == 3:
                        met += 1
                        for stretch, side in face:
                            refused(self, NoMove, slid, drawing, stretch, side)
        self.assertGreater(met, 0)

    def test_each_over_and_under(self):
        # Three cords of which each goes over one and under another.
        drawing = closing(3, [1, -2, 1, -2, 1, -2])
        met = 0
        for face in corner_faces(drawing[1]):
            for name, side in face:
                if len(face) == 3:
                    met += 1
                refused(self, NoMove, slid, drawing, name, side)
        self.assertEqual(met, 24)

    def test_names(self):
        for drawing in (([], []), ([1, 0, 5], []), closing(4, [1, 2, 1]), ([0], [(1, 1, -1, -1, 1)])):
            for thing in no_names(drawing):
                refused(self, NoPlace, slid, drawing, thing, "left")
                refused(self, NoPlace, slid, drawing, thing, "right")
                refused(self, NoPlace, slid, drawing, thing, thing)
            for ring in drawing[0]:
                for thing in any_things():
                    refused(self, NoPlace, slid, drawing, ring, thing)

    def test_sides(self):
        # Of stretches at a face that can be slid, and at faces that can't.
        for drawing in (closing(3, [1, 2, 1]), CURL, TREFOIL):
            for name in names_of(drawing):
                for thing in any_things() + ["Left", "RIGHT", "l", ("left", "right"), ["left"]]:
                    if thing not in ("left", "right"):
                        refused(self, NoPlace, slid, drawing, name, thing)


if __name__ == "__main__":
    unittest.main()
