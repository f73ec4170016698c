"""Points 2, 17 and 18: to which words a word leads, and the tables of that."""

import unittest

from loopcube.cube import leads, table_at
from loopcube.drawings import beside, closing
from loopcube.errors import TooMany
from loopcube.plainform import divisors
from loopcube.tables import is_table, nought, product
from loopcube.words import height_of, weight_of, words_at
from models import leads_model, loops_model, word_places
from support import CURL, TREFOIL, few_parts, refused, told_as_own, too_many

OTHER_CURL = ([], [(-1, 0, 1, 1, 0)])


def looked_at():
    """Drawings with at most six parts, of which no place has more words than can soon be looked at."""
    return [drawing for drawing in few_parts() if len(drawing[1]) <= 4][:30] + [closing(3, [1, 2, -1, 2, -1])]


class Leads(unittest.TestCase):
    def test_joined(self):
        self.assertEqual(leads(CURL, ((0,), (0, 0))), {((1,), (0,)): 1})
        self.assertEqual(leads(CURL, ((0,), (0, 1))), {((1,), (1,)): 1})
        self.assertEqual(leads(CURL, ((0,), (1, 0))), {((1,), (1,)): 1})
        self.assertEqual(leads(CURL, ((0,), (1, 1))), {})

    def test_parted(self):
        self.assertEqual(leads(OTHER_CURL, ((0,), (0,))), {((1,), (0, 1)): 1, ((1,), (1, 0)): 1})
        self.assertEqual(leads(OTHER_CURL, ((0,), (1,))), {((1,), (1, 1)): 1})

    def test_all_opened(self):
        self.assertEqual(leads(([], []), ((), ())), {})
        self.assertEqual(leads(([5], []), ((), (1,))), {})
        self.assertEqual(leads(CURL, ((1,), (0,))), {})
        self.assertEqual(leads(OTHER_CURL, ((1,), (0, 1))), {})

    def test_others_keep_their_marks(self):
        # Loops -5 and 9 with the rings -2 and 4 between them.
        joined, parted = ([4, -2], [(1, 9, -5, -5, 9)]), ([4, -2], [(-1, 9, -5, -5, 9)])
        self.assertEqual(leads(joined, ((0,), (0, 1, 0, 1))), {((1,), (1, 1, 0)): 1})
        self.assertEqual(leads(joined, ((0,), (0, 0, 1, 0))), {((1,), (0, 0, 1)): 1})
        self.assertEqual(leads(joined, ((0,), (1, 0, 1, 1))), {})
        self.assertEqual(
            leads(parted, ((0,), (0, 1, 0))), {((1,), (0, 1, 0, 1)): 1, ((1,), (1, 1, 0, 0)): 1}
        )
        self.assertEqual(leads(parted, ((0,), (1, 0, 1))), {((1,), (1, 0, 1, 1)): 1})

    def test_numbers(self):
        drawing = beside(beside(CURL, CURL), CURL)
        self.assertEqual(
            leads(drawing, ((0, 0, 0), (0,) * 6)),
            {((1, 0, 0), (0,) * 5): 1, ((0, 1, 0), (0,) * 5): 1, ((0, 0, 1), (0,) * 5): 1},
        )
        self.assertEqual(
            leads(drawing, ((1, 0, 0), (0,) * 5)), {((1, 1, 0), (0,) * 4): -1, ((1, 0, 1), (0,) * 4): -1}
        )
        self.assertEqual(
            leads(drawing, ((0, 1, 0), (0,) * 5)), {((1, 1, 0), (0,) * 4): 1, ((0, 1, 1), (0,) * 4): -1}
        )
        self.assertEqual(leads(drawing, ((1, 1, 0), (0,) * 4)), {((1, 1, 1), (0,) * 3): 1})
        self.assertEqual(leads(drawing, ((1, 0, 1), (0,) * 4)), {((1, 1, 1), (0,) * 3): -1})

    def test_all_words(self):
        for drawing in looked_at():
            for (height, weight), words in word_places(drawing).items():
                for word in words:
                    told = leads(drawing, word)
                    self.assertEqual(told, leads_model(drawing, word))
                    for onward in told:
                        self.assertEqual(height_of(drawing, onward), height + 1)
                        self.assertEqual(weight_of(drawing, onward), weight)

    def test_of_more_than_six(self):
        for drawing in too_many():
            for bits in ((0,), (1,), (0, 1), (1, 1, 0)):
                opening = (bits * len(drawing[1]))[:len(drawing[1])]
                many = len(loops_model(drawing, opening))
                for marks in ((0,) * many, (1,) * many, ((0, 0, 1) * many)[:many]):
                    self.assertEqual(leads(drawing, (opening, marks)), leads_model(drawing, (opening, marks)))

    def test_own(self):
        for drawing in looked_at()[:20]:
            for words in word_places(drawing).values():
                told_as_own(self, leads, drawing, words[0])


class TableAt(unittest.TestCase):
    def test_by_hand(self):
        self.assertEqual(table_at(CURL, 0, 1), (1, 2, [[1, 1]]))
        self.assertEqual(table_at(CURL, 0, 3), (1, 1, [[1]]))
        self.assertEqual(table_at(OTHER_CURL, -1, -1), (2, 1, [[1], [1]]))
        self.assertEqual(table_at(OTHER_CURL, -1, -3), (1, 1, [[1]]))
        self.assertEqual(table_at(TREFOIL, 0, 3), (3, 2, [[1, 1], [1, 1], [1, 1]]))
        self.assertEqual(table_at(TREFOIL, 1, 3), (3, 3, [[1, -1, 0], [1, 0, -1], [0, 1, -1]]))

    def test_without_words(self):
        self.assertEqual(table_at(CURL, 0, -1), (0, 1, []))
        self.assertEqual(table_at(CURL, 1, 1), (0, 1, []))
        self.assertEqual(table_at(CURL, -1, 1), (2, 0, [[], []]))
        self.assertEqual(table_at(CURL, 5, 5), (0, 0, []))
        self.assertEqual(table_at(CURL, 0, 0), (0, 0, []))
        self.assertEqual(table_at(([], []), 0, 0), (0, 1, []))
        self.assertEqual(table_at(([], []), -1, 0), (1, 0, [[]]))
        self.assertEqual(table_at(([5, 3], []), 0, 0), (0, 2, []))

    def test_everywhere(self):
        for drawing in looked_at():
            found = word_places(drawing)
            asked = set(found) | {(height - 1, weight) for height, weight in found}
            for height, weight in asked:
                columns, rows = found.get((height, weight), []), found.get((height + 1, weight), [])
                told = table_at(drawing, height, weight)
                self.assertTrue(is_table(told))
                led = [leads_model(drawing, word) for word in columns]
                entries = [[numbers.get(word, 0) for numbers in led] for word in rows]
                self.assertEqual(told, (len(rows), len(columns), entries))

    def test_next_times_this_is_nought(self):
        for drawing in looked_at() + [closing(2, [1] * 6), closing(3, [1, -2] * 3), beside(TREFOIL, CURL)]:
            found = word_places(drawing)
            for height, weight in set(found) | {(height - 1, weight) for height, weight in found}:
                this, then = table_at(drawing, height, weight), table_at(drawing, height + 1, weight)
                self.assertEqual(product(then, this), nought(then[0], this[1]))

    def test_what_is_left_of_the_trefoil(self):
        # What is known of the trefoil: free once at four places, and a 2 at one.
        left = {}
        for height, weight in word_places(TREFOIL):
            out, come = divisors(table_at(TREFOIL, height, weight)), divisors(table_at(TREFOIL, height - 1, weight))
            free = len(words_at(TREFOIL, height, weight)) - len(out) - len(come)
            if free or come[-1:] > [1]:
                left[height, weight] = (free, [number for number in come if number > 1])
        self.assertEqual(left, {(0, 1): (1, []), (0, 3): (1, []), (2, 5): (1, []), (3, 9): (1, []), (3, 7): (0, [2])})

    def test_own(self):
        for drawing in looked_at()[:20]:
            for height, weight in word_places(drawing):
                told_as_own(self, table_at, drawing, height, weight)
        told_as_own(self, table_at, CURL, 5, 5)
        told_as_own(self, table_at, CURL, -1, 1)

    def test_too_many(self):
        for drawing in too_many():
            for height, weight in ((0, 0), (1, 5), (None, None), ("a", []), (True, (0,))):
                refused(self, TooMany, table_at, drawing, height, weight)

    def test_six_are_not_too_many(self):
        for drawing in (closing(2, [1] * 6), ([1, 2, 3, 4, 5, 6], []), beside(TREFOIL, ([4, 3, 2], []))):
            for height, weight in list(word_places(drawing))[:5]:
                self.assertEqual(table_at(drawing, height, weight)[1], len(words_at(drawing, height, weight)))


if __name__ == "__main__":
    unittest.main()
