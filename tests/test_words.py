"""Points 2 and 16: words, their heights and weights, and where there are some."""

import unittest

from loopcube.drawings import beside, closing, mirrored
from loopcube.errors import TooMany
from loopcube.words import height_of, places, weight_of, words_at
from models import loops_model, sign_counts, word_places
from support import CURL, SIXTY, TREFOIL, few_parts, refused, told_as_own, too_many


class HeightAndWeight(unittest.TestCase):
    def test_by_hand(self):
        self.assertEqual(height_of(([], []), ((), ())), 0)
        self.assertEqual(weight_of(([], []), ((), ())), 0)
        self.assertEqual(weight_of(([5], []), ((), (0,))), 1)
        self.assertEqual(weight_of(([5], []), ((), (1,))), -1)
        self.assertEqual(height_of(TREFOIL, ((0, 0, 0), (0, 0))), 0)
        self.assertEqual(weight_of(TREFOIL, ((0, 0, 0), (0, 0))), 5)
        self.assertEqual(height_of(TREFOIL, ((1, 1, 0), (0, 1))), 2)
        self.assertEqual(weight_of(TREFOIL, ((1, 1, 0), (0, 1))), 5)
        self.assertEqual(height_of(mirrored(TREFOIL), ((1, 0, 0), (1, 1))), -2)
        self.assertEqual(weight_of(mirrored(TREFOIL), ((1, 0, 0), (1, 1))), -7)

    def test_all_words(self):
        for drawing in few_parts():
            for (height, weight), words in word_places(drawing).items():
                for word in words[:20]:
                    self.assertEqual(height_of(drawing, word), height)
                    self.assertEqual(weight_of(drawing, word), weight)

    def test_of_more_than_six(self):
        for drawing in too_many():
            above, below = sign_counts(drawing)
            for bits in ((0,), (1,), (0, 1), (1, 1, 0)):
                opening = (bits * len(drawing[1]))[:len(drawing[1])]
                many = len(loops_model(drawing, opening))
                for marks in ((0,) * many, (1,) * many, ((0, 0, 1) * many)[:many]):
                    self.assertEqual(height_of(drawing, (opening, marks)), sum(opening) - below)
                    weight = many - 2 * sum(marks) + sum(opening) + above - 2 * below
                    self.assertEqual(weight_of(drawing, (opening, marks)), weight)

    def test_own(self):
        for drawing in few_parts()[:20]:
            for words in word_places(drawing).values():
                told_as_own(self, height_of, drawing, words[0])
                told_as_own(self, weight_of, drawing, words[-1])


class WordsAt(unittest.TestCase):
    def test_by_hand(self):
        self.assertEqual(words_at(([], []), 0, 0), [((), ())])
        self.assertEqual(words_at(([], []), 0, 1), [])
        self.assertEqual(words_at(([], []), 1, 0), [])
        self.assertEqual(words_at(([5], []), 0, 1), [((), (0,))])
        self.assertEqual(words_at(([5], []), 0, -1), [((), (1,))])
        self.assertEqual(words_at(([5], []), 0, 0), [])
        self.assertEqual(words_at(([5, 2], []), 0, 0), [((), (0, 1)), ((), (1, 0))])
        self.assertEqual(words_at(CURL, 0, 1), [((0,), (0, 1)), ((0,), (1, 0))])
        self.assertEqual(words_at(CURL, 1, 1), [((1,), (1,))])
        self.assertEqual(
            words_at(TREFOIL, 1, 3), [((0, 0, 1), (1,)), ((0, 1, 0), (1,)), ((1, 0, 0), (1,))]
        )
        self.assertEqual(
            words_at(TREFOIL, 2, 5),
            [(opening, marks) for opening in ((0, 1, 1), (1, 0, 1), (1, 1, 0)) for marks in ((0, 1), (1, 0))],
        )

    def test_everywhere(self):
        for drawing in few_parts():
            found = word_places(drawing)
            heights = [height for height, weight in found]
            weights = [weight for height, weight in found]
            for height in range(min(heights) - 2, max(heights) + 3):
                for weight in range(min(weights) - 3, max(weights) + 4):
                    self.assertEqual(words_at(drawing, height, weight), found.get((height, weight), []))
            for far in (SIXTY, -SIXTY):
                self.assertEqual(words_at(drawing, far, 0), [])
                self.assertEqual(words_at(drawing, 0, far), [])

    def test_in_order(self):
        for drawing in few_parts():
            for height, weight in word_places(drawing):
                told = words_at(drawing, height, weight)
                self.assertEqual(told, sorted(told))

    def test_places(self):
        self.assertEqual(places(([], [])), {0: (0, 0)})
        self.assertEqual(places(([5], [])), {-1: (0, 0), 1: (0, 0)})
        self.assertEqual(places(TREFOIL), {1: (0, 0), 3: (0, 3), 5: (0, 3), 7: (2, 3), 9: (3, 3)})
        for drawing in few_parts():
            expected = {}
            for height, weight in word_places(drawing):
                least, greatest = expected.get(weight, (height, height))
                expected[weight] = (min(least, height), max(greatest, height))
            self.assertEqual(places(drawing), expected)

    def test_own(self):
        for drawing in few_parts()[:25]:
            told_as_own(self, places, drawing)
            for height, weight in word_places(drawing):
                told_as_own(self, words_at, drawing, height, weight)

    def test_too_many(self):
        for drawing in too_many():
            refused(self, TooMany, places, drawing)
            for height, weight in ((0, 0), (1, 5), (SIXTY, -SIXTY), (None, None), ("a", []), (True, (0,))):
                refused(self, TooMany, words_at, drawing, height, weight)

    def test_six_are_not_too_many(self):
        for drawing in (
            closing(2, [1] * 6), ([1, 2, 3, 4, 5, 6], []), beside(closing(2, [-1] * 5), ([1], [])),
            beside(CURL, ([1, 2, 3, 4, 5], [])), beside(TREFOIL, ([4, 3, 2], [])),
        ):
            self.assertEqual(len(drawing[0]) + len(drawing[1]), 6)
            told = places(drawing)
            weight = min(told)
            self.assertTrue(words_at(drawing, told[weight][0], weight))


if __name__ == "__main__":
    unittest.main()
