"""Point 3: what holds over the whole program."""

import random
import unittest

from loopcube.counts import counts_of, plain_counts, times_counts
from loopcube.cube import table_at
from loopcube.drawings import beside, closing, cords, knit, mirrored, names_of
from loopcube.errors import NoMove
from loopcube.groups import groups_of, products
from loopcube.leftout import groups_without
from loopcube.likeness import likeness
from loopcube.looker import stands
from loopcube.moves import slid
from loopcube.tables import nought, product
from loopcube.texts import read_drawing, show_drawing
from loopcube.words import places
from papers import paper_fault
from support import CURL, TREFOIL, few_parts, many_curls, shuffled_names
from test_many_moves import chosen_move, lessened

STARTS = [
    ([5], []), ([7, -3], []), CURL, TREFOIL, closing(2, [-1, -1]), closing(3, [1, 2, 1]), closing(3, [1, -2, 1, -2]),
    closing(4, [1, -3, 2]), beside(closing(2, [1, 1]), ([3], [])), beside(CURL, mirrored(CURL)),
]
MOST = 6


def moved(chance, drawing):
    """The drawing behind a move by chance that leaves at most six parts, or None."""
    deed, told = chosen_move(chance, drawing)
    try:
        after = deed(drawing, *told)
    except NoMove:
        return None
    if len(after[0]) + len(after[1]) > MOST:
        return lessened(drawing)
    return after


def mirrored_groups(groups):
    """The groups of a mirrored drawing by those of the drawing."""
    free = {(-height, -weight): group[0] for (height, weight), group in groups.items()}
    numbers = {(1 - height, -weight): group[1] for (height, weight), group in groups.items()}
    told = {place: (free.get(place, 0), numbers.get(place, [])) for place in set(free) | set(numbers)}
    return {place: group for place, group in told.items() if group != (0, [])}


class ManyMoves(unittest.TestCase):
    def look_at(self, start, drawing, left_out):
        """What no move changes, held against the first drawing."""
        self.assertEqual(groups_of(drawing), groups_of(start))
        self.assertEqual(counts_of(drawing), counts_of(start))
        self.assertEqual(plain_counts(drawing), counts_of(start))
        for name, told in left_out.items():
            self.assertEqual(groups_without(drawing, name), told)
        kind, paper = likeness(start, drawing)
        self.assertEqual(kind, "alike")
        self.assertIs(stands(start, drawing, paper), True)

    def test_what_stays(self):
        chance = random.Random(150)
        done = 0
        for start in STARTS:
            drawing = start = shuffled_names(chance, start)
            left_out = {name: groups_without(start, name) for name in names_of(start)}
            for turn in range(50):
                after = moved(chance, drawing)
                if after is None:
                    continue
                # A name that goes may come back with another cord, so it is no longer the same.
                left_out = {name: told for name, told in left_out.items() if name in names_of(after)}
                drawing = after
                done += 1
                if turn % 7 == 0:
                    self.look_at(start, drawing, left_out)
            self.look_at(start, drawing, left_out)
        self.assertGreater(done, 150)

    def test_slides_among_them(self):
        chance = random.Random(151)
        done = 0
        for start in (closing(3, [1, 2, 1]), closing(3, [-1, 2, 1, 1]), closing(3, [2, 1, 2, -1])):
            drawing = start
            for turn in range(40):
                name = chance.choice([name for name in names_of(drawing) if name not in drawing[0]])
                try:
                    drawing = slid(drawing, name, chance.choice(["left", "right"]))
                except NoMove:
                    continue
                done += 1
                self.look_at(start, drawing, {name: groups_without(start, name) for name in names_of(start)[:2]})
        self.assertGreater(done, 5)

    def test_papers_by_own_sums(self):
        chance = random.Random(152)
        for start in STARTS[:8]:
            drawing = start
            for turn in range(25):
                drawing = moved(chance, drawing) or drawing
            self.assertIsNone(paper_fault(start, drawing, likeness(start, drawing)[1]))


class Parts(unittest.TestCase):
    def test_tables_behind_one_another(self):
        for drawing in few_parts()[::4]:
            for weight, (least, greatest) in places(drawing).items():
                for height in range(least - 1, greatest + 1):
                    this, onward = table_at(drawing, height, weight), table_at(drawing, height + 1, weight)
                    self.assertEqual(product(onward, this), nought(onward[0], this[1]))

    def test_counted_with_signs(self):
        for drawing in few_parts():
            counts = {}
            for (height, weight), (free, numbers) in groups_of(drawing).items():
                counts[weight] = counts.get(weight, 0) + (free if height % 2 == 0 else -free)
            self.assertEqual({weight: many for weight, many in counts.items() if many}, plain_counts(drawing))

    def test_mirrored(self):
        for drawing in few_parts():
            self.assertEqual(groups_of(mirrored(drawing)), mirrored_groups(groups_of(drawing)))

    def test_beside_and_knit(self):
        chance = random.Random(153)
        small = [drawing for drawing in few_parts() if names_of(drawing) and len(drawing[0]) + len(drawing[1]) <= 3]
        for turn in range(40):
            one, other = chance.choice(small), chance.choice(small)
            self.assertEqual(groups_of(beside(one, other)), products(groups_of(one), groups_of(other)))
            name, other_name = chance.choice(names_of(one)), chance.choice(names_of(other))
            told = knit(one, name, other, other_name)
            left = name if name in names_of(told) else other_name + max(names_of(one)) + 1 - min(names_of(other))
            self.assertEqual(
                groups_without(told, left), products(groups_without(one, name), groups_without(other, other_name))
            )
            self.assertEqual(
                times_counts(counts_of(told), {1: 1, -1: 1}), times_counts(counts_of(one), counts_of(other))
            )

    def test_just_one_of_two(self):
        chance = random.Random(154)
        drawings = few_parts()
        for turn in range(60):
            one, other = chance.choice(drawings), chance.choice(drawings)
            told = likeness(one, other)
            self.assertEqual(told[0] == "alike", groups_of(one) == groups_of(other))
            if told[0] == "alike":
                self.assertIs(stands(one, other, told[1]), True)
            else:
                kind, height, weight, group, other_group = told
                self.assertNotEqual(group, other_group)
                self.assertEqual(groups_of(one).get((height, weight), (0, [])), group)
                self.assertEqual(groups_of(other).get((height, weight), (0, [])), other_group)

    def test_left_out_of_each_cord(self):
        for drawing in few_parts()[::3]:
            for cord in cords(drawing):
                told = groups_without(drawing, cord[0])
                self.assertEqual(groups_without(mirrored(drawing), cord[-1]), mirrored_groups(told))

    def test_read_and_told(self):
        for drawing in few_parts()[::3]:
            self.assertEqual(groups_of(read_drawing(show_drawing(drawing))), groups_of(drawing))

    def test_the_most_words(self):
        drawing = many_curls(5)
        self.assertEqual(groups_of(drawing), groups_of(([1, 2, 3, 4, 5], [])))
        self.assertEqual(groups_without(drawing, 0), groups_of(([1, 2, 3, 4], [])))


if __name__ == "__main__":
    unittest.main()
