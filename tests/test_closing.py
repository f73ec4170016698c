"""Points 2 and 10: closings of words."""

import itertools
import random
import unittest

from loopcube.drawings import closing, cords, face_at, is_drawing, names_of, signs
from loopcube.errors import NoWord
from support import any_things, random_word, refused, told_as_own


def letter_ends(letter, crossing):
    """The names of a letter's crossing by places: ((in left, in right), (out left, out right))."""
    sign, under_in, under_out, over_in, over_out = crossing
    if letter > 0:
        return (over_in, under_in), (under_out, over_out)
    return (under_in, over_in), (over_out, under_out)


def next_touch(letters, at, place):
    """The first letter behind this one, round about, that crosses the place."""
    many = len(letters)
    for step in range(1, many + 1):
        k = (at + step) % many
        if abs(letters[k]) in (place, place - 1):
            return k


def orbit_count(strands, letters):
    """As many cords as the changes of places have rounds."""
    order = list(range(strands))
    for letter in letters:
        k = abs(letter) - 1
        order[k], order[k + 1] = order[k + 1], order[k]
    seen, many = set(), 0
    for start in range(strands):
        if start not in seen:
            many += 1
        while start not in seen:
            seen.add(start)
            start = order[start]
    return many


def sheet_faces(strands, letters, crossings):
    """The faces by where the strands lie on the sheet: between two letters of a gap, or at its rim."""
    def leaving(at, place):
        return letter_ends(letters[at], crossings[at])[1][place - abs(letters[at])]

    def sides(place, first, last, side):
        found, at = set(), first
        while True:
            if place in (abs(letters[at]), abs(letters[at]) + 1):
                found.add((leaving(at, place), side))
            at = (at + 1) % len(letters)
            if at == last:
                return found

    faces = []
    for gap in range(strands + 1):
        cuts = [k for k, letter in enumerate(letters) if abs(letter) == gap]
        touched = [place for place in (gap, gap + 1) if next_touch(letters, 0, place) is not None]
        for first, last in zip(cuts, cuts[1:] + cuts[:1]):
            faces.append(sides(gap, first, last, "right") | sides(gap + 1, first, last, "left"))
        if not cuts:
            faces += [sides(place, 0, 0, "right" if place == gap else "left") for place in touched]
    return faces


class Closing(unittest.TestCase):
    def look(self, strands, letters):
        drawing = closing(strands, letters)
        self.assertTrue(is_drawing(drawing))
        rings, crossings = drawing
        self.assertEqual([crossing[0] for crossing in crossings], [1 if letter > 0 else -1 for letter in letters])
        free = [place for place in range(1, strands + 1) if next_touch(letters, 0, place) is None]
        self.assertEqual(len(rings), len(free))
        self.assertEqual(len(names_of(drawing)), len(rings) + 2 * len(letters))
        self.assertEqual(len(cords(drawing)), orbit_count(strands, letters))
        for at, letter in enumerate(letters):
            outs = letter_ends(letter, crossings[at])[1]
            for place, name in zip((abs(letter), abs(letter) + 1), outs):
                then = next_touch(letters, at, place)
                ins = letter_ends(letters[then], crossings[then])[0]
                self.assertEqual(ins[place - abs(letters[then])], name)
        faces = sheet_faces(strands, letters, crossings)
        self.assertEqual(sum(len(face) for face in faces), 4 * len(letters))
        for face in faces:
            for name, side in face:
                self.assertEqual(set(face_at(drawing, name, side)), face)
        return drawing

    def test_no_letters(self):
        for strands in range(1, 7):
            rings, crossings = self.look(strands, [])
            self.assertEqual((len(rings), crossings), (strands, []))

    def test_one_letter(self):
        for strands in range(2, 7):
            for k in range(1, strands):
                for letter in (k, -k):
                    rings, crossings = self.look(strands, [letter])
                    self.assertEqual(len(rings), strands - 2)
                    sign, under_in, under_out, over_in, over_out = crossings[0]
                    # Who comes over from place k goes on at k + 1, whose end is the under's beginning.
                    self.assertEqual((under_in, over_in), (over_out, under_out))

    def test_words_on_two_strands(self):
        for many in range(6):
            for letters in itertools.product((1, -1), repeat=many):
                drawing = self.look(2, list(letters))
                self.assertEqual(signs(drawing), (letters.count(1), letters.count(-1)))
                self.assertEqual(len(cords(drawing)), 2 - many % 2)

    def test_words_on_three_strands(self):
        for many in range(4):
            for letters in itertools.product((1, -1, 2, -2), repeat=many):
                self.look(3, list(letters))

    def test_words(self):
        chance = random.Random(16)
        for turn in range(150):
            self.look(*random_word(chance, 14))
        self.look(6, [chance.choice([-5, -4, -3, -2, -1, 1, 2, 3, 4, 5]) for k in range(400)])
        self.look(2, [1] * 400)
        self.look(6, [1, 3, 5])
        self.look(6, [1, -5])
        self.look(4, [2])

    def test_own(self):
        chance = random.Random(17)
        for turn in range(20):
            told_as_own(self, closing, *random_word(chance))

    def test_strands(self):
        for thing in any_things() + [-6, 0, 7, 8, 400]:
            if type(thing) is int and 1 <= thing <= 6:
                self.assertTrue(is_drawing(closing(thing, [])))
            else:
                refused(self, NoWord, closing, thing, [])
                refused(self, NoWord, closing, thing, [1])
                refused(self, NoWord, closing, thing, thing)

    def test_letters(self):
        for thing in any_things():
            if not isinstance(thing, list):
                refused(self, NoWord, closing, 3, thing)
            if type(thing) is not int or thing not in (1, -1, 2):
                refused(self, NoWord, closing, 3, [thing])
                refused(self, NoWord, closing, 3, [1, thing, 2])
                refused(self, NoWord, closing, 3, [1, -1, thing])
        for thing in ((1, 2), (), "12", "", None, 1, True, {}):
            refused(self, NoWord, closing, 3, thing)

    def test_letters_that_are_too_great(self):
        for strands in range(1, 7):
            for letter in (0, strands, -strands, strands + 1, -strands - 1, 10 ** 59):
                refused(self, NoWord, closing, strands, [letter])
            for letter in (strands - 1, 1 - strands):
                if letter != 0:
                    self.look(strands, [letter])


if __name__ == "__main__":
    unittest.main()
