"""Points 2, 11, 12 and 13: many moves in a row."""

import random
import unittest

from loopcube.drawings import beside, closing, cords, is_drawing, names_of
from loopcube.errors import NoMove
from loopcube.moves import curled, poked, slid, uncurled, unpoked
from models import plain_sum
from support import CURL, TREFOIL, shuffled_names

SIDES = ["left", "right"]


def chosen_move(chance, drawing):
    """A move with what it is told, which need not be one that can be done."""
    names = names_of(drawing)
    places = range(len(drawing[1]))
    kind = chance.randrange(5 if drawing[1] else 2)
    if kind == 0:
        return curled, (chance.choice(names), chance.choice([1, -1]), chance.choice(["under", "over"]))
    if kind == 1:
        return poked, (chance.choice(names), chance.choice(SIDES), chance.choice(names), chance.choice(SIDES))
    if kind == 2:
        return uncurled, (chance.choice(places),)
    if kind == 3:
        # Often those that follow one another over, else there would be few.
        j = chance.choice(places)
        behind = [k for k in places if drawing[1][k][3] == drawing[1][j][4]]
        return unpoked, (j, chance.choice(behind + list(places)[:1]))
    stretches = [crossing[1] for crossing in drawing[1]]
    return slid, (chance.choice(stretches), chance.choice(SIDES))


def lessened(drawing):
    """The drawing with the first curl or poke taken out that is found, or None."""
    for k in range(len(drawing[1])):
        try:
            return uncurled(drawing, k)
        except NoMove:
            pass
    for j in range(len(drawing[1])):
        for k in range(len(drawing[1])):
            try:
                return unpoked(drawing, j, k)
            except NoMove:
                pass
    return None


class ManyMoves(unittest.TestCase):
    def starts(self):
        return [
            ([5], []),
            ([7, -3], []),
            CURL,
            TREFOIL,
            closing(3, [1, 2, 1]),
            closing(3, [1, -2, 1, -2]),
            closing(4, [1, -3, 2]),
            beside(TREFOIL, CURL),
            beside(closing(2, [1, 1]), ([3], [])),
            beside(beside(CURL, CURL), closing(2, [-1, -1])),
        ]

    def test_drawings_stay(self):
        chance = random.Random(50)
        done = {deed.__name__: 0 for deed in (curled, uncurled, poked, unpoked, slid)}
        for start in self.starts():
            drawing = shuffled_names(chance, start)
            many = len(cords(drawing))
            for turn in range(600):
                deed, told = chosen_move(chance, drawing)
                try:
                    after = deed(drawing, *told)
                except NoMove:
                    continue
                self.assertTrue(is_drawing(after), (drawing, deed.__name__, told))
                self.assertEqual(len(cords(after)), many)
                done[deed.__name__] += 1
                if len(after[1]) <= 14:
                    drawing = after
        for name, times in done.items():
            self.assertGreater(times, 20, (name, done))

    def test_the_plain_sum_stays(self):
        # What no move changes, told by all openings: it would show a wrong sign or a wrong in.
        chance = random.Random(51)
        done = {}
        for start in self.starts():
            drawing, plain = start, plain_sum(start)
            for turn in range(60):
                deed, told = chosen_move(chance, drawing)
                try:
                    after = deed(drawing, *told)
                except NoMove:
                    continue
                if len(after[1]) > 7:
                    after = lessened(drawing)
                    if after is None:
                        continue
                    deed = lessened
                self.assertEqual(plain_sum(after), plain, (drawing, deed.__name__, told))
                done[deed.__name__] = done.get(deed.__name__, 0) + 1
                drawing = after
        self.assertGreater(sum(done.values()), 150)
        self.assertGreater(done.get("slid", 0), 3)


if __name__ == "__main__":
    unittest.main()
