"""Points 2, 16, 24 and 26: who looks at papers."""

import copy
import random
import unittest

from loopcube.cube import table_at
from loopcube.drawings import beside, closing, face_at, mirrored, turned_about
from loopcube.errors import TooMany
from loopcube.likeness import likeness
from loopcube.looker import stands
from loopcube.moves import curled, poked
from loopcube.tables import many_times, nought, plus, product, unit
from loopcube.words import places, words_at
from papers import paper_fault, turned_paper
from support import (
    CURL, SIXTY, TREFOIL, any_things, few_parts, many_curls, refused, reordered, shuffled_names, told_as_own, too_many,
)

RING = ([5], [])
MORE = curled(TREFOIL, 0, 1, "over")
PAIRS = [
    (([], []), ([], [])), (RING, ([-8], [])), (RING, CURL), (CURL, mirrored(CURL)), (TREFOIL, TREFOIL), (TREFOIL, MORE),
    (([1, 2], []), closing(2, [1, -1])), (closing(3, [1, -2, 1, -2]), mirrored(closing(3, [1, -2, 1, -2]))),
]


def paper_of_itself(drawing):
    """The paper in which nothing is changed: units forth and back, nothing to fill."""
    paper = []
    for weight, (least, greatest) in sorted(places(drawing).items()):
        for height in range(least, greatest + 1):
            many, before = len(words_at(drawing, height, weight)), len(words_at(drawing, height - 1, weight))
            paper.append((height, weight, unit(many), unit(many), nought(before, many), nought(before, many)))
    return paper


def with_row(paper, at, row):
    """The paper with another row at a place."""
    return paper[:at] + [row] + paper[at + 1:]


def with_part(paper, at, part, thing):
    """The paper with another part in a row."""
    row = paper[at]
    return with_row(paper, at, row[:part] + (thing,) + row[part + 1:])


def with_entry(paper, at, part, i, k, thing):
    """The paper with another entry in a table of a row."""
    high, wide, rows = copy.deepcopy(paper[at][part])
    rows[i][k] = thing
    return with_part(paper, at, part, (high, wide, rows))


def entries(paper):
    """All places of entries: row, part, and the place in the table."""
    return [
        (at, part, i, k)
        for at, row in enumerate(paper) for part in range(2, 6)
        for i in range(row[part][0]) for k in range(row[part][1])
    ]


class Stands(unittest.TestCase):
    def told(self, one, other, paper):
        answer = stands(one, other, paper)
        self.assertIs(type(answer), bool)
        return answer

    def test_what_likeness_tells(self):
        chance = random.Random(110)
        for drawing in few_parts()[::2]:
            other = reordered(chance, shuffled_names(chance, drawing))
            for one, another in ((drawing, drawing), (drawing, other), (turned_about(other), drawing)):
                paper = likeness(one, another)[1]
                self.assertIs(self.told(one, another, paper), True)
                self.assertIs(self.told(another, one, turned_paper(paper)), True)

    def test_behind_moves(self):
        hooked = closing(2, [1, 1])
        face = face_at(hooked, 0, "left")
        for one, other in PAIRS + [
            (TREFOIL, curled(MORE, 2, -1, "under")), (([1, 2, 3], []), many_curls(3)),
            (hooked, poked(hooked, *face[0], *face[1])),
            (closing(3, [1, 2, 1, 2]), closing(3, [2, 1, 2, 2])),
        ]:
            kind, paper = likeness(one, other)
            self.assertEqual(kind, "alike")
            self.assertIs(self.told(one, other, paper), True)
            self.assertIs(self.told(other, one, turned_paper(paper)), True)

    def test_other_drawings(self):
        paper = likeness(TREFOIL, MORE)[1]
        for one, other in ((MORE, TREFOIL), (TREFOIL, TREFOIL), (MORE, MORE), (RING, MORE), (mirrored(TREFOIL), MORE)):
            self.assertIs(self.told(one, other, paper), False)

    def test_of_itself(self):
        for drawing in few_parts():
            paper = paper_of_itself(drawing)
            self.assertIs(self.told(drawing, drawing, paper), True)

    def test_of_the_most_words_that_lists_can_have(self):
        drawing = beside(many_curls(3), ([1, 2, 3], []))
        self.assertIs(self.told(drawing, drawing, paper_of_itself(drawing)), True)

    def test_unlike_drawings_have_none(self):
        for one, other in ((TREFOIL, mirrored(TREFOIL)), (RING, ([1, 2], [])), (TREFOIL, closing(2, [1, 1]))):
            for drawing in (one, other):
                self.assertIs(self.told(one, other, paper_of_itself(drawing)), False)

    def test_one_entry_changed(self):
        chance = random.Random(111)
        seen = {True: 0, False: 0}
        for one, other in PAIRS:
            paper = likeness(one, other)[1]
            found = entries(paper)
            for at, part, i, k in chance.sample(found, min(len(found), 60)):
                number = paper[at][part][2][i][k]
                for new in (number + 1, number - 1, -number, 7, SIXTY):
                    if new == number:
                        continue
                    changed = with_entry(paper, at, part, i, k, new)
                    expected = paper_fault(one, other, changed) is None
                    seen[expected] += 1
                    self.assertIs(self.told(one, other, changed), expected, (at, part, i, k, new))
        self.assertGreater(seen[False], 500)

    def test_each_sum(self):
        # Of a ring and itself, and of a curl and itself: each table is looked at.
        paper = paper_of_itself(RING)
        self.assertIs(self.told(RING, RING, with_entry(paper, 0, 2, 0, 0, 2)), False)
        self.assertIs(self.told(RING, RING, with_entry(paper, 1, 3, 0, 0, 0)), False)
        self.assertIs(self.told(RING, RING, with_entry(with_entry(paper, 0, 2, 0, 0, -1), 0, 3, 0, 0, -1)), True)
        self.assertIs(self.told(RING, RING, with_entry(with_entry(paper, 0, 2, 0, 0, 2), 0, 3, 0, 0, 2)), False)
        curl = paper_of_itself(CURL)
        self.assertEqual([row[:2] for row in curl], [(0, -1), (0, 1), (1, 1), (0, 3), (1, 3)])
        for part in (4, 5):
            self.assertIs(self.told(CURL, CURL, with_entry(curl, 4, part, 0, 0, 1)), False)
            self.assertIs(self.told(CURL, CURL, with_entry(curl, 2, part, 1, 0, -1)), False)
        # Nothing forth and back at a weight without groups: then the fillings must make up for all.
        paper = curl
        for at, part in ((3, 2), (3, 3), (4, 2), (4, 3)):
            paper = with_entry(paper, at, part, 0, 0, 0)
        self.assertIs(self.told(CURL, CURL, paper), False)
        paper = with_entry(paper, 4, 4, 0, 0, -1)
        self.assertIs(self.told(CURL, CURL, paper), False)
        paper = with_entry(paper, 4, 5, 0, 0, -1)
        self.assertIs(self.told(CURL, CURL, paper), True)

    def test_forth_and_back_the_other_sign(self):
        for one, other in PAIRS:
            paper = [
                (height, weight, many_times(-1, forth), many_times(-1, back), fill, other_fill)
                for height, weight, forth, back, fill, other_fill in likeness(one, other)[1]
            ]
            self.assertIs(self.told(one, other, paper), True)
            for part in (2, 3):
                at = next(at for at, row in enumerate(paper) if any(any(line) for line in row[part][2]))
                fault = with_part(paper, at, part, many_times(-1, paper[at][part]))
                self.assertIs(self.told(one, other, fault), False)

    def test_other_fillings_that_make_the_same(self):
        # A filling may be changed by table times k less k times table, for any k two heights down.
        kind, paper = likeness(TREFOIL, TREFOIL)
        chance = random.Random(112)
        shifts = {
            (height, weight): (
                len(words_at(TREFOIL, height - 2, weight)), len(words_at(TREFOIL, height, weight)),
                [[chance.randint(-3, 3) for k in words_at(TREFOIL, height, weight)]
                 for row in words_at(TREFOIL, height - 2, weight)],
            )
            for height in range(-2, 7) for weight in (1, 3, 5, 7, 9)
        }
        changed = []
        for height, weight, forth, back, fill, other_fill in paper:
            there = product(table_at(TREFOIL, height - 2, weight), shifts[height, weight])
            here = product(shifts[height + 1, weight], table_at(TREFOIL, height, weight))
            more = plus(there, many_times(-1, here))
            changed.append((height, weight, forth, back, plus(fill, more), plus(other_fill, many_times(5, more))))
        self.assertNotEqual(changed, paper)
        self.assertIsNone(paper_fault(TREFOIL, TREFOIL, changed))
        self.assertIs(self.told(TREFOIL, TREFOIL, changed), True)

    def test_other_rows(self):
        for one, other in PAIRS:
            paper = likeness(one, other)[1]
            self.assertIs(self.told(one, other, []), False)
            for at, row in enumerate(paper):
                faults = [
                    paper[:at] + paper[at + 1:], paper[:at] + [row] + paper[at:], with_row(paper, at, list(row)),
                    with_row(paper, at, row + (0,)), with_row(paper, at, row + (row[5],)), with_row(paper, at, row[:5]),
                    with_row(paper, at, row[1:]), with_row(paper, at, ()), with_row(paper, at, [row]),
                    with_part(paper, at, 0, row[0] + 1), with_part(paper, at, 0, row[0] - 1),
                    with_part(paper, at, 1, row[1] + 1), with_part(paper, at, 1, row[1] - 2),
                    with_row(paper, at, (row[1] + 1, row[0] + 1) + row[2:]), with_row(paper, at, row[:2] + row[3:] + row[2:3]),
                ]
                for fault in faults:
                    self.assertIs(self.told(one, other, fault), False)
            faults = [paper + [paper[-1]], [paper[-1]] + paper, paper + [None], paper + [[]], paper + paper, [paper]]
            if len(paper) > 1:
                faults += [paper[::-1], paper[1:] + paper[:1]]
            for fault in faults:
                self.assertIs(self.told(one, other, fault), False)

    def test_more_places(self):
        # Rows of tables without entries at places where no drawing has words.
        empty = (nought(0, 0),) * 4
        paper = paper_of_itself(CURL)
        self.assertIs(self.told(CURL, CURL, [(0, -3) + empty] + paper), False)
        self.assertIs(self.told(CURL, CURL, paper + [(2, 3, *empty[:2], nought(1, 0), nought(1, 0))]), False)
        self.assertIs(self.told(CURL, CURL, paper[:1] + [(0, 0) + empty] + paper[1:]), False)

    def test_other_parts(self):
        for one, other in PAIRS[:6]:
            paper = likeness(one, other)[1]
            for at, row in list(enumerate(paper))[:6]:
                for part in range(2, 6):
                    high, wide, rows = row[part]
                    faults = [
                        (high + 1, wide, rows + [[0] * wide]), (high, wide + 1, [line + [0] for line in rows]),
                        (high + 1, wide, rows), (high, wide + 1, rows), [high, wide, rows], (high, wide), rows,
                        (high, wide, rows, 0), (high, wide, tuple(rows)), (high, wide, rows + [[0] * wide]),
                        (None, wide, rows), (high, str(wide), rows), (high, wide, None), (-1, wide, rows),
                    ]
                    if high in (0, 1):
                        faults.append((bool(high), wide, rows))
                    if wide in (0, 1):
                        faults.append((high, bool(wide), rows))
                    if high:
                        faults += [(high - 1, wide, rows[1:]), (high, wide, rows[1:]), (high, wide, [tuple(rows[0])] + rows[1:])]
                    if wide and high:
                        faults += [(high, wide - 1, [line[1:] for line in rows]), (high, wide, [rows[0][1:]] + rows[1:])]
                    if high != wide:
                        faults.append((wide, high, [[0] * high for line in range(wide)]))
                    for fault in faults:
                        self.assertIs(self.told(one, other, with_part(paper, at, part, fault)), False, fault)

    def test_other_entries(self):
        chance = random.Random(113)
        for one, other in PAIRS:
            paper = likeness(one, other)[1]
            for at, part, i, k in chance.sample(entries(paper), min(12, len(entries(paper)))):
                number = paper[at][part][2][i][k]
                things = [None, str(number), [number], (number,), "", [], ()]
                if number in (0, 1):
                    things.append(bool(number))
                for thing in things:
                    self.assertIs(self.told(one, other, with_entry(paper, at, part, i, k, thing)), False)

    def test_other_heights_and_weights(self):
        for one, other in PAIRS[:4]:
            paper = likeness(one, other)[1]
            for at, row in enumerate(paper):
                for part in (0, 1):
                    things = [None, str(row[part]), [row[part]], (row[part],), "", [], ()]
                    if row[part] in (0, 1):
                        things.append(bool(row[part]))
                    for thing in things:
                        self.assertIs(self.told(one, other, with_part(paper, at, part, thing)), False)

    def test_any_thing(self):
        paper = likeness(RING, CURL)[1]
        for thing in any_things():
            if isinstance(thing, list):
                self.assertIs(self.told(RING, CURL, thing), False)
                self.assertIs(self.told(([], []), ([], []), thing), False)
            self.assertIs(self.told(([], []), ([], []), [thing]), False)
            self.assertIs(self.told(RING, CURL, [thing] * len(paper)), False)
            self.assertIs(self.told(RING, CURL, with_row(paper, 1, thing)), False)
            for part in range(2, 6):
                self.assertIs(self.told(RING, CURL, with_part(paper, 1, part, thing)), False)
            if type(thing) is not int:
                self.assertIs(self.told(RING, CURL, with_part(paper, 1, 0, thing)), False)
                self.assertIs(self.told(RING, CURL, with_part(paper, 1, 1, thing)), False)
                self.assertIs(self.told(RING, CURL, with_entry(paper, 1, 2, 0, 0, thing)), False)

    def test_own(self):
        for one, other in PAIRS:
            paper = likeness(one, other)[1]
            self.assertIs(told_as_own(self, stands, one, other, paper), True)
            self.assertIs(told_as_own(self, stands, one, other, paper[1:]), False)

    def test_too_many(self):
        paper = likeness(RING, RING)[1]
        for drawing in too_many():
            for thing in (paper, [], [None], None, "a", 0, (), [[]]):
                refused(self, TooMany, stands, drawing, drawing, thing)
                refused(self, TooMany, stands, RING, drawing, thing)
                refused(self, TooMany, stands, drawing, RING, thing)

    def test_six_are_not_too_many(self):
        for drawing in (closing(2, [1] * 6), beside(TREFOIL, ([4, 3, 2], [])), (list(range(6)), [])):
            self.assertIs(self.told(drawing, drawing, likeness(drawing, drawing)[1]), True)
            self.assertIs(self.told(drawing, drawing, []), False)


if __name__ == "__main__":
    unittest.main()
