"""Points 2, 16, 27 and 28: words, tables and groups with a name left out."""

import itertools
import random
import unittest

from loopcube.counts import counts_of, times_counts
from loopcube.drawings import beside, closing, cords, knit, mirrored, names_of
from loopcube.errors import NoMove, NoPlace, TooMany
from loopcube.groups import groups_of, products
from loopcube.leftout import groups_without, table_without, words_without
from loopcube.moves import curled, poked, slid, uncurled, unpoked
from loopcube.tables import is_table, nought, product
from loopcube.words import height_of, weight_of, words_at
from models import groups_without_model, loops_model, model_without
from support import (
    CURL, SIXTY, TREFOIL, few_parts, many_curls, no_names, refused, shuffled_names, told_as_own, too_many,
)

THREE = {(0, 2): (1, []), (2, 6): (1, []), (3, 8): (1, [])}
HOOKED = {(0, 1): (1, []), (2, 5): (1, [])}


def named():
    """Drawings with at most six parts that have names."""
    return [drawing for drawing in few_parts() if names_of(drawing)]


class WordsWithout(unittest.TestCase):
    def test_by_hand(self):
        self.assertEqual(words_without(([5], []), 5, 0, 0), [((), (1,))])
        self.assertEqual(words_without(([5], []), 5, 0, 1), [])
        self.assertEqual(words_without(([5], []), 5, 0, -1), [])
        self.assertEqual(words_without(([5], []), 5, 1, 0), [])
        self.assertEqual(words_without(([5, 2], []), 5, 0, 1), [((), (0, 1))])
        self.assertEqual(words_without(([5, 2], []), 2, 0, 1), [((), (1, 0))])
        self.assertEqual(words_without(([5, 2], []), 2, 0, -1), [((), (1, 1))])
        self.assertEqual(words_without(CURL, 0, 0, 2), [((0,), (1, 0))])
        self.assertEqual(words_without(CURL, 1, 0, 2), [((0,), (0, 1))])
        self.assertEqual(words_without(CURL, 1, 1, 2), [((1,), (1,))])

    def test_everywhere(self):
        for drawing in named()[::2]:
            for name in names_of(drawing)[:3]:
                found = model_without(drawing, name).words
                heights = [height for height, weight in found]
                weights = [weight for height, weight in found]
                for height in range(min(heights) - 2, max(heights) + 3):
                    for weight in range(min(weights) - 3, max(weights) + 4):
                        told = words_without(drawing, name, height, weight)
                        self.assertEqual(told, found.get((height, weight), []))
                for far in (SIXTY, -SIXTY):
                    self.assertEqual(words_without(drawing, name, far, 0), [])
                    self.assertEqual(words_without(drawing, name, 0, far), [])

    def test_by_the_words(self):
        for drawing in named()[:20]:
            name = names_of(drawing)[-1]
            for height, weight in model_without(drawing, name).words:
                told = words_without(drawing, name, height, weight)
                self.assertEqual(told, sorted(told))
                for word in told:
                    self.assertEqual(height_of(drawing, word), height)
                    self.assertEqual(weight_of(drawing, word) + 1, weight)
                    marked = [loop for loop, mark in zip(loops_model(drawing, word[0]), word[1]) if mark == 1]
                    self.assertTrue(any(name in loop for loop in marked))
                self.assertEqual(
                    [word for word in words_at(drawing, height, weight - 1) if word in told], told
                )

    def test_own(self):
        for drawing in named()[:12]:
            name = names_of(drawing)[0]
            for height, weight in model_without(drawing, name).words:
                told_as_own(self, words_without, drawing, name, height, weight)


class TableWithout(unittest.TestCase):
    def test_by_hand(self):
        self.assertEqual(table_without(CURL, 0, 0, 2), (1, 1, [[1]]))
        self.assertEqual(table_without(CURL, 0, 1, 2), (0, 1, []))
        self.assertEqual(table_without(CURL, 0, -1, 2), (1, 0, [[]]))
        self.assertEqual(table_without(CURL, 0, 0, 0), (0, 1, []))
        self.assertEqual(table_without(CURL, 0, 5, 5), (0, 0, []))
        self.assertEqual(table_without(([5], []), 5, 0, 0), (0, 1, []))

    def test_everywhere(self):
        for drawing in named()[::2]:
            for name in names_of(drawing)[:2]:
                model = model_without(drawing, name)
                for height, weight in set(model.words) | {(height - 1, weight) for height, weight in model.words}:
                    told = table_without(drawing, name, height, weight)
                    self.assertTrue(is_table(told))
                    expected = (model.size(height + 1, weight), model.size(height, weight), model.table(height, weight))
                    self.assertEqual(told, expected)
                    onward = table_without(drawing, name, height + 1, weight)
                    self.assertEqual(product(onward, told), nought(onward[0], told[1]))

    def test_own(self):
        for drawing in named()[:12]:
            name = names_of(drawing)[0]
            for height, weight in model_without(drawing, name).words:
                told_as_own(self, table_without, drawing, name, height, weight)


class GroupsWithout(unittest.TestCase):
    def test_known(self):
        self.assertEqual(groups_without(([5], []), 5), {(0, 0): (1, [])})
        self.assertEqual(groups_without(([5, -8], []), -8), {(0, -1): (1, []), (0, 1): (1, [])})
        self.assertEqual(groups_without(CURL, 1), {(0, 0): (1, [])})
        self.assertEqual(groups_without(closing(2, [1, 1]), 0), HOOKED)
        self.assertEqual(groups_without(TREFOIL, 3), THREE)
        self.assertEqual(
            groups_without(mirrored(TREFOIL), 3), {(-height, -weight): group for (height, weight), group in THREE.items()}
        )
        self.assertEqual(
            groups_without(closing(3, [1, -2, 1, -2]), 0), {(k, 2 * k): (1, []) for k in range(-2, 3)}
        )

    def test_by_the_model(self):
        for drawing in named():
            if len(drawing[1]) > 5:
                continue
            for name in names_of(drawing)[:2]:
                told = groups_without(drawing, name)
                self.assertEqual(told, groups_without_model(drawing, name))
                self.assertNotIn((0, []), told.values())

    def test_counts(self):
        for drawing in named() + [many_curls(6)]:
            name = names_of(drawing)[-1]
            counts = {}
            for (height, weight), (free, numbers) in groups_without(drawing, name).items():
                counts[weight] = counts.get(weight, 0) + (-1) ** (height % 2) * free
            self.assertEqual(times_counts(counts, {1: 1, -1: 1}), counts_of(drawing))

    def test_any_name_of_a_cord(self):
        for drawing in named():
            for cord in cords(drawing):
                told = groups_without(drawing, cord[0])
                for name in cord[1:4]:
                    self.assertEqual(groups_without(drawing, name), told)

    def test_names_of_unlike_cords(self):
        # Two rings hooked, and a ring beside: what is left out matters.
        drawing = beside(closing(2, [1, 1]), ([1], []))
        ring = drawing[0][0]
        self.assertEqual(groups_without(drawing, ring), groups_of(closing(2, [1, 1])))
        self.assertEqual(groups_without(drawing, 0), products(HOOKED, groups_of(([1], []))))

    def test_behind_curls_and_pokes(self):
        done = 0
        for drawing in named()[:40]:
            if len(drawing[0]) + len(drawing[1]) > 4:
                continue
            names = names_of(drawing)[:3]
            told = {name: groups_without(drawing, name) for name in names}
            afters = [curled(drawing, names[0], 1, "under"), curled(drawing, names[-1], -1, "over")]
            for (e, f), sides in itertools.product(itertools.permutations(names, 2), (("left", "right"), ("right", "right"))):
                try:
                    afters.append(poked(drawing, e, sides[0], f, sides[1]))
                except NoMove:
                    pass
            for after in afters:
                for name in names:
                    done += 1
                    self.assertEqual(groups_without(after, name), told[name])
        self.assertGreater(done, 100)

    def test_behind_what_is_taken_out(self):
        for start, name in ((TREFOIL, 2), (([5, 9], []), 9), (closing(2, [-1, -1]), 1)):
            after = curled(curled(start, name, 1, "over"), name, -1, "under")
            told = groups_without(start, name)
            for k in range(len(after[1])):
                try:
                    back = uncurled(after, k)
                except NoMove:
                    continue
                for still in set(names_of(back)) & set(names_of(after)):
                    if still in next(cord for cord in cords(after) if name in cord):
                        self.assertEqual(groups_without(back, still), told)
        pair = poked(([5, 9], []), 5, "right", 9, "left")
        for name in (5, 9):
            self.assertEqual(groups_without(pair, name), groups_without(unpoked(pair, 0, 1), name))

    def test_behind_slides(self):
        done = 0
        for letters in ([1, 2, 1], [-1, 2, 1, 1], [1, -2, -1, 2]):
            drawing = closing(3, letters)
            for name, side in itertools.product(names_of(drawing), ("left", "right")):
                try:
                    after = slid(drawing, name, side)
                except NoMove:
                    continue
                done += 1
                for left_out in names_of(drawing)[::2]:
                    self.assertEqual(groups_without(after, left_out), groups_without(drawing, left_out))
        self.assertGreater(done, 2)

    def test_own(self):
        for drawing in named()[:25]:
            told_as_own(self, groups_without, drawing, names_of(drawing)[0])


class Refusals(unittest.TestCase):
    def test_no_place(self):
        for drawing in (([], []), ([1], []), ([0, 1], []), CURL, TREFOIL, closing(3, [1])):
            for thing in no_names(drawing):
                refused(self, NoPlace, groups_without, drawing, thing)
                refused(self, NoPlace, words_without, drawing, thing, 0, 0)
                refused(self, NoPlace, table_without, drawing, thing, 0, 0)

    def test_too_many(self):
        for drawing in too_many():
            for thing in names_of(drawing)[:2] + no_names(drawing)[:25]:
                refused(self, TooMany, groups_without, drawing, thing)
                refused(self, TooMany, words_without, drawing, thing, 0, 0)
                refused(self, TooMany, table_without, drawing, thing, 0, 0)

    def test_six_are_not_too_many(self):
        for drawing in (closing(2, [1] * 6), beside(TREFOIL, ([4, 3, 2], [])), (list(range(6)), [])):
            name = names_of(drawing)[0]
            self.assertTrue(groups_without(drawing, name))
            height, weight = min(model_without(drawing, name).words)
            self.assertTrue(words_without(drawing, name, height, weight))
            self.assertEqual(table_without(drawing, name, height - 1, weight)[1], 0)


class Knit(unittest.TestCase):
    def look_at(self, one, name, other, other_name):
        told = knit(one, name, other, other_name)
        left = name
        if name in one[0] and other_name not in other[0]:
            left = other_name + max(names_of(one)) + 1 - min(names_of(other))
        self.assertEqual(
            groups_without(told, left), products(groups_without(one, name), groups_without(other, other_name))
        )

    def test_stretches_and_rings(self):
        ring, rings = ([5], []), ([7, -3], [])
        hooked = closing(2, [1, 1])
        for one, other in itertools.product((ring, rings, CURL, TREFOIL, hooked, mirrored(TREFOIL)), repeat=2):
            for name, other_name in itertools.product(names_of(one)[:2], names_of(other)[-2:]):
                self.look_at(one, name, other, other_name)

    def test_rings_beside_stretches(self):
        drawing = beside(closing(2, [-1, -1]), ([4], []))
        ring = drawing[0][0]
        for other in (([3], []), CURL, TREFOIL):
            for name in (ring, 0):
                self.look_at(drawing, name, other, names_of(other)[0])
                self.look_at(other, names_of(other)[0], drawing, name)

    def test_many(self):
        chance = random.Random(120)
        small = [drawing for drawing in named() if len(drawing[0]) + len(drawing[1]) <= 3]
        for turn in range(80):
            one, other = [shuffled_names(chance, chance.choice(small)) for each in range(2)]
            self.look_at(one, chance.choice(names_of(one)), other, chance.choice(names_of(other)))


if __name__ == "__main__":
    unittest.main()
