"""Points 2, 8 and 9: names, cords, faces, and drawings made of drawings."""

import random
import unittest

from loopcube.drawings import (
    beside, cords, face_at, is_drawing, knit, mirrored, named_anew, names_of, signs, turned_about,
)
from loopcube.errors import NoPlace
from support import CURL, SIXTY, TREFOIL, any_things, corner_faces, many_drawings, no_names, refused, told_as_own

HOPF = ([], [(1, 1, 2, 0, 3), (1, 3, 0, 2, 1)])
OTHER_SIDE = {"left": "right", "right": "left"}


class Told(unittest.TestCase):
    def test_names(self):
        self.assertEqual(names_of(([], [])), [])
        self.assertEqual(names_of(([7, -3, 0], [])), [-3, 0, 7])
        self.assertEqual(names_of(CURL), [0, 1])
        self.assertEqual(names_of(([9, -2], [(1, SIXTY, 5, 5, SIXTY)])), [-2, 5, 9, SIXTY])
        for drawing in many_drawings():
            names = {name for crossing in drawing[1] for name in crossing[1:]} | set(drawing[0])
            self.assertEqual(told_as_own(self, names_of, drawing), sorted(names))

    def test_cords_by_hand(self):
        self.assertEqual(cords(([], [])), [])
        self.assertEqual(cords(([7, -3, 0], [])), [[-3], [0], [7]])
        self.assertEqual(cords(CURL), [[0, 1]])
        self.assertEqual(cords(TREFOIL), [[0, 3, 4, 1, 2, 5]])
        self.assertEqual(cords(HOPF), [[0, 3], [1, 2]])
        self.assertEqual(cords(([1], [(1, 8, 2, 0, 3), (1, 3, 0, 2, 8)])), [[0, 3], [1], [2, 8]])
        self.assertEqual(cords(([], [(1, 5, 3, 3, 5)])), [[3, 5]])

    def test_cords(self):
        for drawing in many_drawings():
            told = told_as_own(self, cords, drawing)
            self.assertEqual(sorted(sum(told, [])), names_of(drawing))
            self.assertEqual([cord[0] for cord in told], sorted(cord[0] for cord in told))
            onward = {crossing[k]: crossing[k + 1] for crossing in drawing[1] for k in (1, 3)}
            for cord in told:
                self.assertEqual(cord[0], min(cord))
                if cord[0] in drawing[0]:
                    self.assertEqual(cord, [cord[0]])
                else:
                    self.assertEqual([onward[name] for name in cord], cord[1:] + cord[:1])

    def test_signs(self):
        self.assertEqual(signs(([], [])), (0, 0))
        self.assertEqual(signs(([4], [])), (0, 0))
        self.assertEqual(signs(TREFOIL), (3, 0))
        self.assertEqual(signs(mirrored(TREFOIL)), (0, 3))
        self.assertEqual(signs(([], [(1, 0, 1, 1, 0), (-1, 2, 3, 3, 2), (-1, 4, 5, 5, 4)])), (1, 2))
        for drawing in many_drawings():
            told = told_as_own(self, signs, drawing)
            self.assertEqual(sum(told), len(drawing[1]))
            self.assertEqual(told[0] - told[1], sum(crossing[0] for crossing in drawing[1]))


class Faces(unittest.TestCase):
    def face(self, drawing, name, side):
        told = face_at(drawing, name, side)
        self.assertIsInstance(told, list)
        self.assertEqual(len(told), len(set(told)))
        return set(told)

    def test_strands_that_go_up(self):
        # Between two crossings the stretch 2 is at the left, 3 at the right.
        self.assertEqual(self.face(TREFOIL, 2, "right"), {(2, "right"), (3, "left")})
        self.assertEqual(self.face(TREFOIL, 3, "left"), {(2, "right"), (3, "left")})
        self.assertEqual(self.face(TREFOIL, 2, "left"), {(0, "left"), (2, "left"), (4, "left")})
        self.assertEqual(self.face(TREFOIL, 3, "right"), {(1, "right"), (3, "right"), (5, "right")})
        self.assertEqual(self.face(mirrored(TREFOIL), 2, "right"), {(2, "right"), (3, "left")})

    def test_curls(self):
        self.assertEqual(self.face(CURL, 1, "left"), {(1, "left")})
        self.assertEqual(self.face(CURL, 0, "right"), {(0, "right")})
        self.assertEqual(self.face(CURL, 0, "left"), {(0, "left"), (1, "right")})
        other = ([], [(-1, 0, 1, 1, 0)])
        self.assertEqual(self.face(other, 1, "right"), {(1, "right")})
        self.assertEqual(self.face(other, 0, "left"), {(0, "left")})
        self.assertEqual(self.face(other, 0, "right"), {(0, "right"), (1, "left")})

    def test_all_faces(self):
        for drawing in many_drawings():
            faces = {frozenset(face) for face in corner_faces(drawing[1])}
            seen = set()
            for name in names_of(drawing):
                for side in ("left", "right"):
                    if name in drawing[0]:
                        refused(self, NoPlace, face_at, drawing, name, side)
                        continue
                    face = frozenset(self.face(drawing, name, side))
                    self.assertIn((name, side), face)
                    self.assertIn(face, faces)
                    seen.add(face)
            self.assertEqual(seen, faces)
            self.assertEqual(sum(len(face) for face in seen), 4 * len(drawing[1]))

    def test_turned_about_sides_change(self):
        for drawing in many_drawings(30, 6):
            for name in names_of(drawing):
                if name not in drawing[0]:
                    face = self.face(drawing, name, "left")
                    changed = {(stretch, OTHER_SIDE[side]) for stretch, side in face}
                    self.assertEqual(self.face(turned_about(drawing), name, "right"), changed)
                    self.assertEqual(self.face(mirrored(drawing), name, "left"), face)

    def test_own(self):
        for drawing in many_drawings(30, 4):
            for name in names_of(drawing):
                if name not in drawing[0]:
                    told_as_own(self, face_at, drawing, name, "left")
                    told_as_own(self, face_at, drawing, name, "right")

    def test_what_is_not_there(self):
        for drawing in ([], []), ([1, 0, 5], []), TREFOIL, ([7], CURL[1]), ([0], [(1, 1, -1, -1, 1)]):
            for thing in no_names(drawing):
                refused(self, NoPlace, face_at, drawing, thing, "left")
                refused(self, NoPlace, face_at, drawing, thing, "right")
            for ring in drawing[0]:
                refused(self, NoPlace, face_at, drawing, ring, "left")

    def test_sides(self):
        for thing in any_things() + ["Left", "RIGHT", "l", "leftright", ("left", "right")]:
            if thing not in ("left", "right"):
                refused(self, NoPlace, face_at, TREFOIL, 0, thing)
                refused(self, NoPlace, face_at, ([7], []), 7, thing)
                refused(self, NoPlace, face_at, TREFOIL, thing, thing)


class Changed(unittest.TestCase):
    def test_mirrored(self):
        self.assertEqual(mirrored(([], [])), ([], []))
        self.assertEqual(mirrored(([5], [(1, 1, 2, 3, 4)])), ([5], [(-1, 3, 4, 1, 2)]))
        for drawing in many_drawings():
            told = told_as_own(self, mirrored, drawing)
            self.assertTrue(is_drawing(told))
            self.assertEqual(mirrored(told), drawing)
            self.assertEqual(signs(told), signs(drawing)[::-1])
            self.assertEqual(cords(told), cords(drawing))

    def test_turned_about(self):
        self.assertEqual(turned_about(([], [])), ([], []))
        self.assertEqual(turned_about(([5], [(-1, 1, 2, 3, 4)])), ([5], [(-1, 2, 1, 4, 3)]))
        for drawing in many_drawings():
            told = told_as_own(self, turned_about, drawing)
            self.assertTrue(is_drawing(told))
            self.assertEqual(turned_about(told), drawing)
            self.assertEqual(signs(told), signs(drawing))
            self.assertEqual([set(cord) for cord in cords(told)], [set(cord) for cord in cords(drawing)])

    def test_named_anew(self):
        self.assertEqual(named_anew(([], []), {}), ([], []))
        self.assertEqual(named_anew(([5, 3], []), {3: 5, 5: 3}), ([3, 5], []))
        by = {0: 1, 1: 0, 2: 3, 3: 4, 4: 5, 5: 2}
        self.assertEqual(named_anew(TREFOIL, by), ([], [(1, 0, 3, 1, 4), (1, 4, 5, 3, 2), (1, 2, 1, 5, 0)]))
        self.assertEqual(named_anew(([2], CURL[1]), {0: 1, 1: 2, 2: 0}), ([0], [(1, 1, 2, 2, 1)]))
        self.assertEqual(named_anew(CURL, {0: -SIXTY, 1: SIXTY}), ([], [(1, -SIXTY, SIXTY, SIXTY, -SIXTY)]))
        chance = random.Random(9)
        for drawing in many_drawings():
            names = names_of(drawing)
            by = dict(zip(names, chance.sample(names, len(names))))
            back = {fresh: name for name, fresh in by.items()}
            told = told_as_own(self, named_anew, drawing, by)
            self.assertTrue(is_drawing(told))
            self.assertEqual(names_of(told), names)
            self.assertEqual(named_anew(told, back), drawing)


class Together(unittest.TestCase):
    def test_beside_by_hand(self):
        self.assertEqual(beside(CURL, CURL), ([], [(1, 0, 1, 1, 0), (1, 2, 3, 3, 2)]))
        self.assertEqual(beside(([5], []), ([5], [])), ([5, 6], []))
        self.assertEqual(beside(([-9], []), ([4, 3], [])), ([-9, -7, -8], []))
        self.assertEqual(beside(([10, 2], []), ([-5, -7], [])), ([10, 2, 13, 11], []))
        self.assertEqual(beside(([], []), ([-5, -7], [])), ([-5, -7], []))
        self.assertEqual(beside(([-5, -7], []), ([], [])), ([-5, -7], []))
        self.assertEqual(beside(([], []), CURL), CURL)
        self.assertEqual(beside(CURL, ([], [])), CURL)
        self.assertEqual(beside(([], []), ([], [])), ([], []))
        one, other = ([8], [(1, 0, 1, 1, 0)]), ([-4], [(-1, -6, 20, 20, -6)])
        self.assertEqual(beside(one, other), ([8, 11], [(1, 0, 1, 1, 0), (-1, 9, 35, 35, 9)]))
        self.assertEqual(beside(other, one), ([-4, 29], [(-1, -6, 20, 20, -6), (1, 21, 22, 22, 21)]))
        self.assertEqual(beside(([SIXTY], []), ([0], [])), ([SIXTY, SIXTY + 1], []))

    def test_beside(self):
        drawings = many_drawings(40, 12)
        for one, other in zip(drawings, drawings[7:] + drawings[:7]):
            told = told_as_own(self, beside, one, other)
            self.assertTrue(is_drawing(told))
            self.assertEqual(len(cords(told)), len(cords(one)) + len(cords(other)))
            self.assertEqual((told[0][:len(one[0])], told[1][:len(one[1])]), one)
            rest = (told[0][len(one[0]):], told[1][len(one[1]):])
            back = dict(zip(names_of(rest), names_of(other)))
            self.assertEqual(named_anew(rest, back), other)
            if names_of(one) and names_of(other):
                self.assertEqual(names_of(rest)[0], names_of(one)[-1] + 1)
                self.assertEqual(
                    names_of(rest)[-1] - names_of(rest)[0], names_of(other)[-1] - names_of(other)[0]
                )

    def test_beside_itself(self):
        for drawing in many_drawings(30, 13):
            told = told_as_own(self, beside, drawing, drawing)
            self.assertTrue(is_drawing(told))
            self.assertEqual(len(names_of(told)), 2 * len(names_of(drawing)))

    def test_knit_stretches(self):
        self.assertEqual(knit(CURL, 0, CURL, 1), ([], [(1, 3, 1, 1, 0), (1, 2, 3, 0, 2)]))
        self.assertEqual(knit(CURL, 1, CURL, 0), ([], [(1, 0, 1, 2, 0), (1, 1, 3, 3, 2)]))
        one, other = ([9], [(1, 0, 1, 1, 0)]), ([-7], [(-1, -5, -6, -6, -5)])
        self.assertEqual(knit(one, 0, other, -6), ([9, 10], [(1, 11, 1, 1, 0), (-1, 12, 11, 0, 12)]))

    def test_knit_rings(self):
        self.assertEqual(knit(([5], []), 5, CURL, 1), ([], [(1, 6, 7, 7, 6)]))
        self.assertEqual(knit(CURL, 1, ([5], []), 5), ([], [(1, 0, 1, 1, 0)]))
        self.assertEqual(knit(([5], []), 5, ([5], []), 5), ([5], []))
        self.assertEqual(knit(([5, 3], []), 3, ([1, 2], []), 2), ([5, 3, 6], []))
        self.assertEqual(knit(([5, 3], []), 5, ([1, 2], []), 1), ([5, 3, 7], []))
        self.assertEqual(knit(([5, 3], CURL[1]), 3, ([8], CURL[1]), 0), ([5, 14], [(1, 0, 1, 1, 0), (1, 6, 7, 7, 6)]))
        self.assertEqual(knit(([5, 3], CURL[1]), 1, ([8], CURL[1]), 8), ([5, 3], [(1, 0, 1, 1, 0), (1, 6, 7, 7, 6)]))

    def test_knit(self):
        chance = random.Random(14)
        drawings = [drawing for drawing in many_drawings(60, 15) if names_of(drawing)]
        for one, other in zip(drawings, drawings[5:] + drawings[:5]):
            name, other_name = chance.choice(names_of(one)), chance.choice(names_of(other))
            self.knit_well(one, name, other, other_name)
        for drawing in drawings[:20]:
            self.knit_well(drawing, names_of(drawing)[0], drawing, names_of(drawing)[-1])
            self.knit_well(drawing, names_of(drawing)[0], drawing, names_of(drawing)[0])

    def knit_well(self, one, name, other, other_name):
        told = told_as_own(self, knit, one, name, other, other_name)
        self.assertTrue(is_drawing(told))
        together = beside(one, other)
        self.assertEqual(len(cords(told)), len(cords(together)) - 1)
        self.assertEqual(signs(told), signs(together))
        second = other_name + names_of(one)[-1] + 1 - names_of(other)[0]
        if name in one[0] or second in together[0]:
            gone = second if second in together[0] else name
            self.assertEqual(told, ([ring for ring in together[0] if ring != gone], together[1]))
            return
        self.assertEqual(told[0], together[0])
        swap = {name: second, second: name}
        for (sign, a, b, c, d), (old_sign, old_a, old_b, old_c, old_d) in zip(told[1], together[1]):
            self.assertEqual((sign, b, d), (old_sign, old_b, old_d))
            self.assertEqual((a, c), (swap.get(old_a, old_a), swap.get(old_c, old_c)))
        joined = [cord for cord in cords(told) if name in cord]
        self.assertIn(second, joined[0])

    def test_knit_where_nothing_is(self):
        for drawing in (TREFOIL, ([1], []), ([0, 7], [(1, 1, 2, 2, 1)])):
            good = names_of(drawing)[0]
            for thing in no_names(drawing):
                refused(self, NoPlace, knit, drawing, thing, TREFOIL, 0)
                refused(self, NoPlace, knit, TREFOIL, 0, drawing, thing)
                refused(self, NoPlace, knit, drawing, good, drawing, thing)
                refused(self, NoPlace, knit, drawing, thing, drawing, thing)
        refused(self, NoPlace, knit, ([], []), 0, TREFOIL, 0)
        refused(self, NoPlace, knit, TREFOIL, 0, ([], []), 0)
        # A name that the second has only once it is moved is not there.
        refused(self, NoPlace, knit, TREFOIL, 0, CURL, 6)


if __name__ == "__main__":
    unittest.main()
