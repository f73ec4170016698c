"""Points 2, 3, 24 and 25: papers for drawings whose groups are alike, or a place where they are not."""

import itertools
import random
import unittest

from loopcube.drawings import beside, closing, knit, mirrored, names_of, turned_about
from loopcube.errors import NoMove, TooMany
from loopcube.groups import groups_of
from loopcube.likeness import likeness
from loopcube.moves import curled, poked, slid, uncurled, unpoked
from papers import paper_fault, turned_paper
from support import (
    CURL, TREFOIL, few_parts, many_curls, refused, reordered, shuffled_names, told_as_own, too_many,
)

FIGURE = closing(3, [1, -2, 1, -2])
HOOKED = closing(2, [1, 1])


class Likeness(unittest.TestCase):
    def look_at(self, one, other):
        """What is told of two drawings, held against the points."""
        told = likeness(one, other)
        groups, other_groups = groups_of(one), groups_of(other)
        self.assertIs(type(told), tuple)
        if groups == other_groups:
            self.assertEqual(told[0], "alike")
            self.assertEqual(len(told), 2)
            self.assertIsNone(paper_fault(one, other, told[1]))
        else:
            places = sorted((weight, height) for height, weight in set(groups) | set(other_groups))
            weight, height = next(
                (weight, height) for weight, height in places
                if groups.get((height, weight)) != other_groups.get((height, weight))
            )
            empty = (0, [])
            self.assertEqual(told, (
                "unlike", height, weight,
                groups.get((height, weight), empty), other_groups.get((height, weight), empty),
            ))
        return told[0]

    def test_unlike_by_hand(self):
        ring, two = ([5], []), ([5, 6], [])
        self.assertEqual(likeness(ring, two), ("unlike", 0, -2, (0, []), (1, [])))
        self.assertEqual(likeness(two, ring), ("unlike", 0, -2, (1, []), (0, [])))
        self.assertEqual(likeness(([], []), ring), ("unlike", 0, -1, (0, []), (1, [])))
        self.assertEqual(likeness(TREFOIL, ring), ("unlike", 0, -1, (0, []), (1, [])))
        self.assertEqual(likeness(TREFOIL, mirrored(TREFOIL)), ("unlike", -3, -9, (0, []), (1, [])))
        self.assertEqual(likeness(mirrored(TREFOIL), TREFOIL), ("unlike", -3, -9, (1, []), (0, [])))
        self.assertEqual(likeness(FIGURE, ring), ("unlike", -2, -5, (1, []), (0, [])))
        # Weights come ahead of heights: the least weight where they differ is that of the greater height.
        self.assertEqual(likeness(HOOKED, ([1, 2], [])), ("unlike", 0, -2, (0, []), (1, [])))
        self.assertEqual(likeness(closing(2, [1] * 4), HOOKED), ("unlike", 0, 0, (0, []), (1, [])))
        self.assertEqual(likeness(closing(2, [1] * 5), TREFOIL), ("unlike", 0, 1, (0, []), (1, [])))
        self.assertEqual(likeness(closing(3, [1, 2] * 3), closing(2, [1] * 5)), ("unlike", 4, 9, (1, []), (0, [])))

    def test_alike_by_hand(self):
        unit = (1, 1, [[1]])
        nothing = (0, 1, [])
        told = likeness(([], []), ([], []))
        self.assertEqual(told, ("alike", [(0, 0, (1, 1, told[1][0][2][2]), (1, 1, told[1][0][3][2]), nothing, nothing)]))
        self.assertIn(told[1][0][2], (unit, (1, 1, [[-1]])))
        self.assertEqual(told[1][0][2], told[1][0][3])
        kind, paper = likeness(([5], []), ([-8], []))
        self.assertEqual([row[:2] for row in paper], [(0, -1), (0, 1)])
        kind, paper = likeness(([5], []), CURL)
        self.assertEqual([row[:2] for row in paper], [(0, -1), (0, 1), (1, 1), (0, 3), (1, 3)])
        self.assertEqual([part[:2] for part in paper[2][2:]], [(1, 0), (0, 1), (1, 0), (2, 1)])

    def test_with_itself(self):
        for drawing in few_parts():
            self.assertEqual(self.look_at(drawing, drawing), "alike")

    def test_names_order_and_direction(self):
        chance = random.Random(100)
        for drawing in few_parts()[::2]:
            self.assertEqual(self.look_at(drawing, shuffled_names(chance, drawing)), "alike")
            self.assertEqual(self.look_at(reordered(chance, drawing), drawing), "alike")
            self.assertEqual(self.look_at(drawing, turned_about(drawing)), "alike")

    def test_behind_curls(self):
        for drawing in few_parts()[:30]:
            if not names_of(drawing) or len(drawing[0]) + len(drawing[1]) > 5:
                continue
            for sign, way in itertools.product((1, -1), ("under", "over")):
                after = curled(drawing, names_of(drawing)[0], sign, way)
                self.assertEqual(self.look_at(drawing, after), "alike")
                self.assertEqual(self.look_at(after, uncurled(after, len(after[1]) - 1)), "alike")

    def test_behind_pokes(self):
        done = 0
        for drawing in few_parts()[:40]:
            if len(drawing[0]) + len(drawing[1]) > 4:
                continue
            for e, f in itertools.permutations(names_of(drawing)[:3], 2):
                try:
                    after = poked(drawing, e, "left", f, "right")
                except NoMove:
                    continue
                done += 1
                self.assertEqual(self.look_at(drawing, after), "alike")
                self.assertEqual(self.look_at(after, unpoked(after, len(after[1]) - 2, len(after[1]) - 1)), "alike")
        self.assertGreater(done, 15)

    def test_behind_slides(self):
        done = 0
        for letters in ([1, 2, 1], [1, 2, 1, -2], [-1, 2, 1], [1, -2, -1, 2, 2], [2, 1, 2, 1, 2, 1]):
            drawing = closing(3, letters)
            for name in names_of(drawing):
                try:
                    after = slid(drawing, name, "right")
                except NoMove:
                    continue
                done += 1
                self.assertEqual(self.look_at(drawing, after), "alike")
        self.assertGreater(done, 3)

    def test_any_two(self):
        chance = random.Random(101)
        drawings = few_parts()
        kinds = [self.look_at(chance.choice(drawings), chance.choice(drawings)) for turn in range(120)]
        self.assertIn("alike", kinds)
        self.assertIn("unlike", kinds)

    def test_alike_but_other_words(self):
        # Divisors on both sides, and unlike many words.
        three = curled(curled(TREFOIL, 0, 1, "over"), 1, -1, "under")
        for one, other in (
            (TREFOIL, three), (three, TREFOIL), (three, curled(TREFOIL, 4, -1, "over")),
            (closing(3, [1, 2] * 3), closing(3, [2, 1] * 3)), (FIGURE, mirrored(FIGURE)),
            (closing(3, [1, 1, 1, 2]), TREFOIL), (knit(TREFOIL, 0, CURL, 0), TREFOIL),
            (beside(TREFOIL, ([1], [])), beside(([1], []), three)),
            (many_curls(4), beside(mirrored(many_curls(2)), ([1, 2], []))),
        ):
            self.assertEqual(self.look_at(one, other), "alike")

    def test_either_way_about(self):
        for one, other in ((TREFOIL, curled(TREFOIL, 0, 1, "over")), (([5], []), closing(3, [1, -2])), (CURL, CURL)):
            kind, paper = likeness(one, other)
            self.assertIsNone(paper_fault(other, one, turned_paper(paper)))

    def test_own(self):
        for one, other in (
            (([], []), ([], [])), (([5], []), CURL), (TREFOIL, curled(TREFOIL, 0, 1, "over")), (TREFOIL, TREFOIL),
            (TREFOIL, mirrored(TREFOIL)), (([5], []), ([5, 6], [])), (FIGURE, mirrored(FIGURE)),
        ):
            told_as_own(self, likeness, one, other)
        told_as_own(self, lambda one: likeness(one, one), TREFOIL)

    def test_unlike_groups_are_own(self):
        # Lists on both sides, also where one of them is that of nothing.
        one, other = closing(2, [1] * 5), beside(TREFOIL, ([1], []))
        for first, second in ((one, other), (other, one), (closing(2, [1] * 4), TREFOIL)):
            told_as_own(self, likeness, first, second)

    def test_too_many(self):
        for drawing in too_many():
            refused(self, TooMany, likeness, drawing, drawing)
            for other in (([], []), ([5], []), TREFOIL):
                refused(self, TooMany, likeness, drawing, other)
                refused(self, TooMany, likeness, other, drawing)

    def test_six_are_not_too_many(self):
        for drawing in (closing(2, [1] * 6), beside(TREFOIL, ([4, 3, 2], [])), (list(range(6)), [])):
            self.assertEqual(likeness(drawing, drawing)[0], "alike")
            self.assertEqual(likeness(drawing, ([], []))[0], "unlike")


if __name__ == "__main__":
    unittest.main()
