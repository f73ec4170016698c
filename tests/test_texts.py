"""Points 2 and 29: drawings, groups and counts as texts, and drawings read from them."""

import random
import unittest

from loopcube.counts import counts_of
from loopcube.drawings import closing, is_drawing, mirrored
from loopcube.errors import NoText
from loopcube.groups import gathered, groups_of
from loopcube.moves import curled
from loopcube.texts import read_drawing, show_counts, show_drawing, show_groups
from support import CURL, SIXTY, TREFOIL, any_things, many_drawings, refused, shuffled_names, told_as_own

EXAMPLE = "5,7 / +0,1,2,0 -3,2,1,3"
TEXTS = [
    "/", "/ +0,1,1,0", EXAMPLE, "5 /", "-5,0,7 /", "/ -0,1,1,0", f"{SIXTY},-{SIXTY} /", f"{SIXTY} / +0,1,1,0",
    f"/ -{SIXTY},-{SIXTY},-{SIXTY},-{SIXTY}", "/ +1,2,0,3 +3,4,2,5 +5,0,4,1", "7 / -1,0,0,1 +2,3,3,2",
]
SIGNS = [chr(k) for k in range(32, 127)] + ["\n", "\t"]


def written_number(text):
    """Whether a text is a number by the words of the point."""
    figures = text[1:] if text[:1] == "-" else text
    if not figures or len(figures) > 60 or any(sign not in "0123456789" for sign in figures):
        return False
    return text == "0" or figures[0] != "0"


def read_model(text):
    """The drawing of a text by the words of the point, or None."""
    if text == "/":
        return ([], [])
    ahead, slash, behind = text.partition("/")
    if not slash or "/" in behind or (ahead and not ahead.endswith(" ")) or (behind and not behind.startswith(" ")):
        return None
    names = ahead[:-1].split(",") if ahead else []
    words = behind[1:].split(" ") if behind else []
    crossings = []
    for word in words:
        ends = word[1:].split(",")
        if word[:1] not in ("+", "-") or len(ends) != 4 or not all(written_number(end) for end in ends):
            return None
        crossings.append((int(word[0] + "1"), *[int(end) for end in ends]))
    if not all(written_number(name) for name in names):
        return None
    drawing = ([int(name) for name in names], crossings)
    return drawing if is_drawing(drawing) else None


class ShowDrawing(unittest.TestCase):
    def test_by_hand(self):
        self.assertEqual(show_drawing(([5, 7], [(1, 0, 1, 2, 0), (-1, 3, 2, 1, 3)])), EXAMPLE)
        self.assertEqual(show_drawing(([], [])), "/")
        self.assertEqual(show_drawing(([], [(1, 0, 1, 1, 0)])), "/ +0,1,1,0")
        self.assertEqual(show_drawing(([5], [])), "5 /")
        self.assertEqual(show_drawing(([7, -3, 0], [])), "7,-3,0 /")
        self.assertEqual(show_drawing(([], [(-1, -1, 0, 0, -1)])), "/ --1,0,0,-1")
        self.assertEqual(show_drawing(([SIXTY, -SIXTY], [])), f"{SIXTY},-{SIXTY} /")
        self.assertEqual(show_drawing(([9], [(-1, 1, 0, 0, 1)])), "9 / -1,0,0,1")

    def test_names_of_more_figures(self):
        # What is told may have more: it is written, and not read.
        after = curled(([SIXTY], []), SIXTY, 1, "under")
        self.assertEqual(show_drawing(after), f"/ +{SIXTY},1{'0' * 60},1{'0' * 60},{SIXTY}")
        refused(self, NoText, read_drawing, show_drawing(after))

    def test_own(self):
        for drawing in many_drawings()[:30]:
            told_as_own(self, show_drawing, drawing)


class ReadDrawing(unittest.TestCase):
    def test_by_hand(self):
        self.assertEqual(read_drawing(EXAMPLE), ([5, 7], [(1, 0, 1, 2, 0), (-1, 3, 2, 1, 3)]))
        self.assertEqual(read_drawing("/"), ([], []))
        self.assertEqual(read_drawing("/ +0,1,1,0"), CURL)
        self.assertEqual(read_drawing("-5,0,7 /"), ([-5, 0, 7], []))
        self.assertEqual(read_drawing("/ --1,0,0,-1"), ([], [(-1, -1, 0, 0, -1)]))

    def test_what_is_written_is_read(self):
        chance = random.Random(130)
        for drawing in many_drawings(120, 131):
            for each in (drawing, mirrored(drawing), shuffled_names(chance, drawing)):
                self.assertEqual(read_drawing(show_drawing(each)), each)
        for text in TEXTS:
            if read_model(text) is not None:
                self.assertEqual(show_drawing(read_drawing(text)), text)

    def look_at(self, text):
        """What is told of a text, held against the model."""
        expected = read_model(text)
        if expected is None:
            refused(self, NoText, read_drawing, text)
        else:
            self.assertEqual(read_drawing(text), expected)
            self.assertEqual(show_drawing(expected), text)

    def test_one_sign_other(self):
        for text in TEXTS + ["/ --1,0,0,-1"]:
            self.look_at(text)
            signs = SIGNS if len(text) < 40 else ["0", "1", "-", "+", ",", " ", "/", "a", "\n"]
            for at in range(len(text) + 1):
                self.look_at(text[:at] + text[at + 1:])
                for sign in signs:
                    self.look_at(text[:at] + sign + text[at:])
                    self.look_at(text[:at] + sign + text[at + 1:])

    def test_refused_by_hand(self):
        for text in (
            "", " ", "  ", "//", "/ /", "/ ", " /", "5", "5 ", "5/", "5, /", ",5 /", "5,,7 /", "5 7 /", "5 / ", "5  /",
            "/  +0,1,1,0", "/ +0,1,1,0 ", " / +0,1,1,0", "/+0,1,1,0", "/ +0,1,1,0\n", "/\t+0,1,1,0", "\n/", "/\n",
            "/ + 0,1,1,0", "/ 0,1,1,0", "/ +0,1,1", "/ +0,1,1,0,0", "/ +0,1,1,0,", "/ +,0,1,1,0", "/ ++0,1,1,0",
            "/ +0,+1,1,0", "/ +00,1,1,00", "/ +0,01,01,0", "/ -0,-1,-1,-0", "-0 /", "+5 /", "05 /", "-05 /", "--5 /", "- /",
            "1e3 /", "1_0 /", "0x1 /", "5. /", "5 / 7 /", "/ +0,1,1,0 /", "/ 5", "5 / / +0,1,1,0", "none", "a /", "5;7 /",
            f"1{'0' * 60} /", f"-1{'0' * 60} /", f"/ +0,1{'0' * 60},1{'0' * 60},0", "0" * 60 + " /",
        ):
            refused(self, NoText, read_drawing, text)

    def test_no_drawings(self):
        for text in (
            "5,5 /", "0 / +0,1,1,0", "/ +0,1,2,0", "/ +0,1,2,3", "/ +0,0,0,0 +0,1,1,0", "/ +0,0,1,1 +0,0,1,1",
            "/ +0,1,0,1", "/ +0,1,2,3 +1,0,3,2 +4,5,6,7", "/ -0,1,1,2", "/ +0,1,1,0 -1,0,0,1", "/ +0,0,1,1",
            "/ +2,3,0,1 +3,0,1,2",
        ):
            self.assertIsNone(read_model(text), text)
            refused(self, NoText, read_drawing, text)

    def test_any_thing(self):
        for thing in any_things():
            if not isinstance(thing, str) or read_model(thing) is None:
                refused(self, NoText, read_drawing, thing)
        for thing in ([], ["/"], ("/",), ([], []), CURL, None, True, 0):
            refused(self, NoText, read_drawing, thing)

    def test_long(self):
        drawing = closing(6, [1, 2, 3, 4, 5] * 16)
        self.assertEqual(read_drawing(show_drawing(drawing)), drawing)
        rings = (list(range(400)), [])
        self.assertEqual(read_drawing(show_drawing(rings)), rings)
        refused(self, NoText, read_drawing, "a" * 4000)
        refused(self, NoText, read_drawing, " " * 4000)
        refused(self, NoText, read_drawing, "/" * 4000)
        refused(self, NoText, read_drawing, "1" * 4000 + " /")

    def test_own(self):
        for text in TEXTS:
            if read_model(text) is not None:
                told_as_own(self, read_drawing, text)


class ShowGroups(unittest.TestCase):
    def test_by_hand(self):
        self.assertEqual(show_groups({(0, 1): (1, []), (2, 5): (2, [2, 4])}), "(0,1):Z (2,5):Z^2+Z/2+Z/4")
        self.assertEqual(show_groups({}), "none")
        self.assertEqual(show_groups({(0, 0): (1, [])}), "(0,0):Z")
        self.assertEqual(show_groups({(-3, -9): (3, [])}), "(-3,-9):Z^3")
        self.assertEqual(show_groups({(1, -1): (0, [2])}), "(1,-1):Z/2")
        self.assertEqual(show_groups({(1, -1): (0, [2, 2, 6])}), "(1,-1):Z/2+Z/2+Z/6")
        self.assertEqual(show_groups({(1, -1): (1, [3])}), "(1,-1):Z+Z/3")
        self.assertEqual(show_groups({(-1, 0): (10, [SIXTY])}), f"(-1,0):Z^10+Z/{SIXTY}")
        self.assertEqual(show_groups(groups_of(TREFOIL)), "(0,1):Z (0,3):Z (2,5):Z (3,7):Z/2 (3,9):Z")

    def test_order(self):
        groups = {(10, 1): (1, []), (-2, 3): (1, []), (2, -5): (1, []), (2, 3): (1, []), (-2, -30): (1, []), (0, 0): (2, [])}
        text = "(-2,-30):Z (-2,3):Z (0,0):Z^2 (2,-5):Z (2,3):Z (10,1):Z"
        chance = random.Random(132)
        for turn in range(10):
            places = chance.sample(list(groups), len(groups))
            self.assertEqual(show_groups({place: groups[place] for place in places}), text)

    def test_numbers_that_were_told(self):
        # Too long for Python's own writing; whatever was told may be handed in again.
        number = gathered([10 ** 59 + k for k in range(300)])[-1]
        self.assertGreater(number, 10 ** 5000)
        told = show_groups({(0, 0): (0, [number])})
        figures = told[len("(0,0):Z/"):]
        value = 0
        for at in range(0, len(figures), 1000):
            part = figures[at:at + 1000]
            value = value * 10 ** len(part) + int(part)
        self.assertEqual(value, number)
        self.assertNotEqual(figures[0], "0")

    def test_own(self):
        for groups in ({}, groups_of(TREFOIL), {(0, 0): (2, [2, 4])}):
            told_as_own(self, show_groups, groups)


class ShowCounts(unittest.TestCase):
    def test_by_hand(self):
        self.assertEqual(show_counts({-3: 2, 5: -1}), "+2*q^-3 -1*q^5")
        self.assertEqual(show_counts({5: -1, -3: 2}), "+2*q^-3 -1*q^5")
        self.assertEqual(show_counts({}), "0")
        self.assertEqual(show_counts({0: 1}), "+1*q^0")
        self.assertEqual(show_counts({1: -12}), "-12*q^1")
        self.assertEqual(show_counts({10: 1, 9: 1, -10: 1, -9: 1}), "+1*q^-10 +1*q^-9 +1*q^9 +1*q^10")
        self.assertEqual(show_counts({SIXTY: -SIXTY}), f"-{SIXTY}*q^{SIXTY}")
        self.assertEqual(show_counts(counts_of(TREFOIL)), "+1*q^1 +1*q^3 +1*q^5 -1*q^9")

    def test_own(self):
        for counts in ({}, counts_of(TREFOIL), {-3: 2, 5: -1}):
            told_as_own(self, show_counts, counts)


if __name__ == "__main__":
    unittest.main()
