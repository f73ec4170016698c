"""Points 2 and 21: counts by groups and by openings, and their products."""

import random
import unittest

from loopcube.counts import counts_of, plain_counts, times_counts
from loopcube.drawings import beside, closing, mirrored
from loopcube.errors import TooMany
from loopcube.groups import groups_of
from models import plain_sum
from support import CURL, SIXTY, TREFOIL, few_parts, many_curls, many_drawings, refused, told_as_own, too_many

RING = {-1: 1, 1: 1}


def parts(drawing):
    """How many crossings and rings there are."""
    return len(drawing[0]) + len(drawing[1])


def more_parts():
    """Drawings with seven to nine crossings and rings."""
    told = [drawing for drawing in many_drawings(150, 90) if 7 <= parts(drawing) <= 9][:12]
    return told + [closing(2, [1] * 9), beside(TREFOIL, ([4, 3, 2, 1, 7, 8], [])), (list(range(9)), []), many_curls(8)]


class Counts(unittest.TestCase):
    def test_by_hand(self):
        for deed in (counts_of, plain_counts):
            self.assertEqual(deed(([], [])), {0: 1})
            self.assertEqual(deed(([5], [])), RING)
            self.assertEqual(deed(([5, 8], [])), {-2: 1, 0: 2, 2: 1})
            self.assertEqual(deed(CURL), RING)
            self.assertEqual(deed(closing(2, [1, 1])), {0: 1, 2: 1, 4: 1, 6: 1})
            self.assertEqual(deed(TREFOIL), {1: 1, 3: 1, 5: 1, 9: -1})
            self.assertEqual(deed(mirrored(TREFOIL)), {-1: 1, -3: 1, -5: 1, -9: -1})
            # Two free ones at one weight that take one another away.
            self.assertEqual(deed(closing(3, [1, -2, 1, -2])), {-5: 1, 5: 1})

    def test_both_are_the_same(self):
        for drawing in few_parts() + [many_curls(6)]:
            told = counts_of(drawing)
            self.assertEqual(told, plain_counts(drawing))
            self.assertNotIn(0, told.values())

    def test_by_the_model(self):
        for drawing in few_parts()[:40] + more_parts()[:8]:
            self.assertEqual(plain_counts(drawing), plain_sum(drawing))

    def test_by_the_groups(self):
        for drawing in few_parts()[:40]:
            expected = {}
            for (height, weight), (free, numbers) in groups_of(drawing).items():
                expected[weight] = expected.get(weight, 0) + (-1) ** (height % 2) * free
            expected = {weight: many for weight, many in expected.items() if many}
            self.assertEqual(counts_of(drawing), expected)

    def test_seven_to_nine(self):
        for drawing in more_parts():
            self.assertTrue(plain_counts(drawing))
            refused(self, TooMany, counts_of, drawing)
        self.assertEqual(plain_counts(many_curls(8)), plain_counts((list(range(8)), [])))
        self.assertEqual(plain_counts(beside(TREFOIL, ([1, 2, 3, 4, 5], []))), {
            -4: 1, -2: 6, 0: 16, 2: 25, 4: 24, 6: 11, 8: -4, 10: -9, 12: -5, 14: -1,
        })

    def test_too_many(self):
        for drawing in too_many():
            refused(self, TooMany, counts_of, drawing)
        for drawing in (
            closing(2, [1] * 10), (list(range(10)), []), beside(closing(2, [-1] * 9), ([1], [])),
            closing(6, [1, 2, 3, 4, 5] * 4), beside(TREFOIL, ([1, 2, 3, 4, 5, 6, 7], [])), many_curls(10),
        ):
            refused(self, TooMany, plain_counts, drawing)
            refused(self, TooMany, counts_of, drawing)

    def test_own(self):
        for drawing in few_parts()[:25]:
            told_as_own(self, counts_of, drawing)
            told_as_own(self, plain_counts, drawing)


class TimesCounts(unittest.TestCase):
    def test_by_hand(self):
        self.assertEqual(times_counts(RING, RING), {-2: 1, 0: 2, 2: 1})
        self.assertEqual(times_counts({2: 3}, {-5: -2}), {-3: -6})
        self.assertEqual(times_counts({0: 1, 1: 1}, {0: 1, 1: -1}), {0: 1, 2: -1})
        self.assertEqual(times_counts({}, {}), {})
        self.assertEqual(times_counts({}, RING), {})
        self.assertEqual(times_counts(RING, {}), {})
        self.assertEqual(times_counts(RING, {0: 1}), RING)
        self.assertEqual(times_counts({SIXTY: SIXTY}, {-SIXTY: SIXTY}), {0: SIXTY * SIXTY})

    def test_as_sums_of_powers(self):
        chance = random.Random(91)
        for turn in range(60):
            one, other = [
                {chance.randint(-6, 6): chance.choice([-3, -1, 1, 2]) for k in range(chance.randint(0, 6))}
                for each in range(2)
            ]
            told = times_counts(one, other)
            self.assertNotIn(0, told.values())
            self.assertEqual(told, times_counts(other, one))
            # 7 to the least power, and so on: with so small counts no two sums come to the same by chance.
            for base in (7, 1001):
                def value(counts, shift):
                    return sum(many * base ** (weight + shift) for weight, many in counts.items())
                self.assertEqual(value(told, 12), value(one, 6) * value(other, 6))

    def test_beside(self):
        small = [drawing for drawing in few_parts() if parts(drawing) <= 3]
        for one, other in zip(small, small[1:] + small[:1]):
            self.assertEqual(times_counts(counts_of(one), counts_of(other)), counts_of(beside(one, other)))

    def test_own(self):
        for one in ({}, RING, {5: -2, -3: 1}):
            for other in ({}, RING, {0: 7}):
                told_as_own(self, times_counts, one, other)
            told_as_own(self, times_counts, one, one)


if __name__ == "__main__":
    unittest.main()
