"""Points 2, 16 and 30: the desk."""

import random
import unittest

from loopcube.counts import counts_of
from loopcube.desk import Desk
from loopcube.drawings import closing, mirrored, names_of, turned_about
from loopcube.errors import NoMove, NoPlace, NoText, NoWord, TooMany
from loopcube.groups import groups_of
from loopcube.likeness import likeness
from loopcube.moves import curled, poked, slid, uncurled, unpoked
from loopcube.texts import show_counts, show_drawing, show_groups
from support import CURL, SIXTY, TREFOIL, any_things, few_parts, many_drawings, refused, too_many

NAMES = ["a", "b", "knot", "abcdefgh", "z"]


def laid():
    """A desk with some drawings on it."""
    desk = Desk()
    for row in (
        "close knot 2 1 1 1", "keep a 5 /", "keep b 5,7 / +0,1,2,0 -3,2,1,3", "close abcdefgh 2 1 1 1 1 1 1 1",
        "close z 3 1 2 1",
    ):
        desk.say(row)
    return desk


def shown(desk):
    """All that is shown of the names."""
    told = []
    for name in NAMES:
        try:
            told.append(desk.say("show " + name))
        except NoPlace:
            told.append(None)
    return told


class Rows(unittest.TestCase):
    def test_keep_and_show(self):
        desk = Desk()
        for text in ("/", "5 /", "/ +0,1,1,0", "5,7 / +0,1,2,0 -3,2,1,3", f"{SIXTY},-{SIXTY} /"):
            self.assertEqual(desk.say("keep a " + text), "ok")
            self.assertEqual(desk.say("show a"), text)
        for drawing in many_drawings()[:30]:
            self.assertEqual(desk.say("keep b " + show_drawing(drawing)), "ok")
            self.assertEqual(desk.say("show b"), show_drawing(drawing))
        self.assertEqual(desk.say("show a"), f"{SIXTY},-{SIXTY} /")

    def test_names(self):
        desk = Desk()
        for name in ("a", "z", "abcdefgh", "keep", "show", "left", "q", "zzzzzzzz"):
            self.assertEqual(desk.say(f"keep {name} 5 /"), "ok")
            self.assertEqual(desk.say(f"show {name}"), "5 /")

    def test_close(self):
        desk = Desk()
        for strands, letters in ((1, []), (6, []), (2, [1]), (2, [-1, -1, -1]), (3, [1, -2, 1, -2]), (6, [5, -4, 3])):
            row = " ".join(["close", "a", str(strands)] + [str(letter) for letter in letters])
            self.assertEqual(desk.say(row), "ok")
            self.assertEqual(desk.say("show a"), show_drawing(closing(strands, letters)))

    def test_close_refused(self):
        desk = laid()
        before = shown(desk)
        for row in (
            "close a 0", "close a -1", "close a 7", "close a 1 1", "close a 2 0", "close a 2 2", "close a 2 1 -2",
            "close a 3 1 2 3", f"close a {SIXTY}", f"close a 2 {SIXTY}", "close new 0", "close new 2 1 0",
        ):
            refused(self, NoWord, desk.say, row)
            self.assertEqual(shown(desk), before)
        refused(self, NoPlace, desk.say, "show new")

    def test_copy(self):
        desk = laid()
        self.assertEqual(desk.say("copy knot new"), "ok")
        self.assertEqual(desk.say("show new"), show_drawing(TREFOIL))
        self.assertEqual(desk.say("copy knot a"), "ok")
        self.assertEqual(desk.say("show a"), show_drawing(TREFOIL))
        self.assertEqual(desk.say("copy knot knot"), "ok")
        self.assertEqual(desk.say("show knot"), show_drawing(TREFOIL))
        self.assertEqual(desk.say("curl knot 0 + under"), "ok")
        for name in ("new", "a"):
            self.assertEqual(desk.say("show " + name), show_drawing(TREFOIL))
        self.assertEqual(desk.say("mirror new"), "ok")
        self.assertEqual(desk.say("show a"), show_drawing(TREFOIL))
        self.assertEqual(desk.say("show knot"), show_drawing(curled(TREFOIL, 0, 1, "under")))
        refused(self, NoPlace, desk.say, "copy none new")
        refused(self, NoPlace, desk.say, "copy none none")
        self.assertEqual(desk.say("show new"), show_drawing(mirrored(TREFOIL)))

    def test_curls(self):
        desk = Desk()
        for sign, number in (("+", 1), ("-", -1)):
            for way in ("under", "over"):
                desk.say("close a 2 1 1 1")
                self.assertEqual(desk.say(f"curl a 3 {sign} {way}"), "ok")
                expected = curled(TREFOIL, 3, number, way)
                self.assertEqual(desk.say("show a"), show_drawing(expected))
                self.assertEqual(desk.say("uncurl a 3"), "ok")
                self.assertEqual(desk.say("show a"), show_drawing(uncurled(expected, 3)))

    def test_pokes(self):
        desk = Desk()
        for side in ("left", "right"):
            for other_side in ("left", "right"):
                desk.say("keep a 5,-8 /")
                self.assertEqual(desk.say(f"poke a 5 {side} -8 {other_side}"), "ok")
                expected = poked(([5, -8], []), 5, side, -8, other_side)
                self.assertEqual(desk.say("show a"), show_drawing(expected))
                self.assertEqual(desk.say("unpoke a 1 0"), "ok")
                self.assertEqual(desk.say("show a"), show_drawing(unpoked(expected, 1, 0)))

    def test_slides(self):
        drawing = closing(3, [1, 2, 1])
        done = 0
        for name in names_of(drawing):
            for side in ("left", "right"):
                desk = laid()
                try:
                    expected = slid(drawing, name, side)
                except NoMove:
                    before = shown(desk)
                    refused(self, NoMove, desk.say, f"slide z {name} {side}")
                    self.assertEqual(shown(desk), before)
                    continue
                done += 1
                self.assertEqual(desk.say(f"slide z {name} {side}"), "ok")
                self.assertEqual(desk.say("show z"), show_drawing(expected))
        self.assertGreater(done, 0)

    def test_mirror_and_turn(self):
        desk = laid()
        self.assertEqual(desk.say("mirror knot"), "ok")
        self.assertEqual(desk.say("show knot"), show_drawing(mirrored(TREFOIL)))
        self.assertEqual(desk.say("turn knot"), "ok")
        self.assertEqual(desk.say("show knot"), show_drawing(turned_about(mirrored(TREFOIL))))

    def test_groups_and_counts(self):
        desk = laid()
        self.assertEqual(desk.say("groups knot"), "(0,1):Z (0,3):Z (2,5):Z (3,7):Z/2 (3,9):Z")
        self.assertEqual(desk.say("counts knot"), "+1*q^1 +1*q^3 +1*q^5 -1*q^9")
        desk.say("keep a /")
        self.assertEqual(desk.say("groups a"), "(0,0):Z")
        self.assertEqual(desk.say("counts a"), "+1*q^0")
        for drawing in few_parts()[:25]:
            desk.say("keep a " + show_drawing(drawing))
            self.assertEqual(desk.say("groups a"), show_groups(groups_of(drawing)))
            self.assertEqual(desk.say("counts a"), show_counts(counts_of(drawing)))
            self.assertEqual(desk.say("show a"), show_drawing(drawing))

    def test_same(self):
        desk = laid()
        self.assertEqual(desk.say("same knot knot"), "alike")
        self.assertEqual(desk.say("same knot a"), "unlike (0,-1)")
        self.assertEqual(desk.say("same a knot"), "unlike (0,-1)")
        desk.say("copy knot b")
        desk.say("curl b 0 - over")
        self.assertEqual(desk.say("same knot b"), "alike")
        desk.say("mirror b")
        self.assertEqual(desk.say("same b knot"), "unlike (-3,-9)")
        chance = random.Random(140)
        drawings = few_parts()
        for turn in range(40):
            one, other = chance.choice(drawings), chance.choice(drawings)
            desk.say("keep a " + show_drawing(one))
            desk.say("keep b " + show_drawing(other))
            told = likeness(one, other)
            expected = "alike" if told[0] == "alike" else f"unlike ({told[1]},{told[2]})"
            self.assertEqual(desk.say("same a b"), expected)

    def test_two_desks(self):
        one, other = Desk(), Desk()
        one.say("keep a 5 /")
        refused(self, NoPlace, other.say, "show a")
        other.say("keep a 7 /")
        self.assertEqual(one.say("show a"), "5 /")
        one.say("curl a 5 + over")
        self.assertEqual(other.say("show a"), "7 /")
        refused(self, NoPlace, Desk().say, "show a")

    def test_keep_over_a_kept_name(self):
        desk = laid()
        self.assertEqual(desk.say("keep knot /"), "ok")
        self.assertEqual(desk.say("show knot"), "/")
        self.assertEqual(desk.say("close knot 1"), "ok")
        self.assertEqual(desk.say("show knot"), show_drawing(closing(1, [])))


GOOD = [
    "keep a 5 /", "keep a /", "keep a / +0,1,1,0", "close a 2 1 -1", "close a 1", "show a", "copy a new", "curl a 5 + under",
    "uncurl b 0", "poke a 5 left 5 right", "unpoke b 0 1", "slide z 0 left", "mirror a", "turn a", "groups a", "counts a",
    "same a b",
]


class Refusals(unittest.TestCase):
    def no_text(self, desk, before, row):
        refused(self, NoText, desk.say, row)
        self.assertEqual(shown(desk), before, row)

    def test_no_text_by_hand(self):
        desk = laid()
        before = shown(desk)
        for row in (
            "", " ", "keep", "keep a", "keep a ", "keep  a /", "keep a  /", "keep a / ", " keep a /", "keep a /\n", "keep A /",
            "keep a1 /", "keep abcdefghi /", "keep  /", "keep 5 /", "keep a_b /", "keep a 5,5 /", "keep a 05 /", "keep a x",
            "keep a b /", "keep a +0,1,1,0", "keep a / +0,0,1,1", "Keep a /", "keeps a /", "keep\ta /", "keep a\t/",
            "close", "close a", "close a ", "close a x", "close a 2 x", "close a 2 1 ", "close a 2  1", "close a 02 1",
            "close a 2 01", "close a 2 +1", "close a +2 1", "close a 2 -0", "close a 2 1,1", "close A 2 1", "close abcdefghi 2",
            f"close a 1{'0' * 60}", f"close a 2 -1{'0' * 60}", "close a 2 1\n", "close a 0 x", "close a 2.0",
            "show", "show ", "show a ", "show  a", "show a b", "show A", "show abcdefghi", "show a1", "show\ta", "show a\n",
            "shows a", "SHOW a", "show -", "copy", "copy a", "copy a ", "copy a b b", "copy a B", "copy A b", "copy a  b",
            "copy a abcdefghi", "curl", "curl a", "curl a 5", "curl a 5 +", "curl a 5 + under ", "curl a 5 + under x",
            "curl a 5 1 under", "curl a 5 -1 under", "curl a 5 ++ under", "curl a 5 + Under", "curl a 5 + left",
            "curl a 5 + around", "curl a 5 under +", "curl a + 5 under", "curl a 05 + under", "curl a +5 + under",
            "curl a -0 + under", "curl a x + under", "curl A 5 + under", f"curl a 1{'0' * 60} + under", "curl a 5  under",
            "uncurl", "uncurl b", "uncurl b x", "uncurl b 0 0", "uncurl b 00", "uncurl b +0", "uncurl B 0", "uncurl b -0",
            "poke", "poke a 5 left 5", "poke a 5 left 5 right x", "poke a 5 Left 5 right", "poke a 5 left 5 under",
            "poke a left 5 5 right", "poke a 5 left x right", "poke a x left 5 right", "poke a 5 + 5 right",
            "unpoke", "unpoke b 0", "unpoke b 0 1 2", "unpoke b 0 x", "unpoke b x 0", "unpoke b 0 01", "unpoke b 0,1",
            "slide", "slide z 0", "slide z 0 up", "slide z x left", "slide z left 0", "slide z 0 left left", "slide Z 0 left",
            "mirror", "mirror a a", "mirror A", "mirror a ", "turn", "turn a a", "turn A", "groups", "groups a a", "groups A",
            "counts", "counts a a", "counts A", "counts  a", "same", "same a", "same a b b", "same a B", "same a  b",
            "same A b", "knit a b", "drop a", "help", "a", "ok", "name a", "drawing a", "number a", "/", "5 /",
        ):
            self.no_text(desk, before, row)

    def test_one_sign_more_or_fewer(self):
        # Blanks doubled or left out, words too many or too few, at each place of each kind of row.
        desk = laid()
        before = shown(desk)
        for row in GOOD:
            words = row.split(" ")
            faults = [row + " ", " " + row, row.replace(" ", "  ", 1), row.upper(), row + "\n", row + "\t", row.replace(" ", "\t")]
            if words[0] != "close":
                faults.append(row + " 1")
            if words[0] not in ("close", "keep"):
                faults.append(" ".join(words[:-1]))
            faults += [words[0], " ".join(words[1:]), row.replace(" ", ""), row.replace(words[0], words[0] + "x", 1)]
            for fault in faults:
                self.no_text(desk, before, fault)

    def test_no_texts(self):
        desk = laid()
        before = shown(desk)
        for thing in any_things() + [["show", "a"], ("show", "a"), ["show a"], ("show a",)]:
            self.no_text(desk, before, thing)

    def test_no_text_ahead_of_all_else(self):
        desk = laid()
        before = shown(desk)
        for row in (
            "show none x", "curl none 5 + around", "curl none x + under", "curl a 99 + around", "uncurl none 00",
            "uncurl a 99 99", "poke none 5 left 5 up", "unpoke none 0 -0", "slide none 0 up", "slide a 99 up",
            "groups abcdefgh x", "same abcdefgh x1", "same none X", "copy none B", "close a 9 x", "close a 0 0 00",
            "counts abcdefgh ", "mirror none none",
        ):
            self.no_text(desk, before, row)

    def test_no_place_for_names_not_kept(self):
        desk = laid()
        before = shown(desk)
        for row in (
            "show none", "copy none a", "curl none 5 + under", "uncurl none 0", "poke none 5 left 7 right", "unpoke none 0 1",
            "slide none 0 left", "mirror none", "turn none", "groups none", "counts none", "same none a", "same a none",
            "same none none", "same abcdefgh none", "same none abcdefgh",
        ):
            refused(self, NoPlace, desk.say, row)
            self.assertEqual(shown(desk), before)
        refused(self, NoPlace, desk.say, "show none")

    def test_no_place_in_a_drawing(self):
        desk = laid()
        before = shown(desk)
        for row in (
            "curl a 6 + under", "curl knot 99 - over", f"curl a {SIXTY} + under", "curl a -5 + under", "uncurl a 0",
            "uncurl b 2", "uncurl b -1", f"uncurl b {SIXTY}", "poke a 5 left 6 right", "poke a 6 left 5 right",
            "poke a 6 left 6 right", "unpoke b 0 2", "unpoke b 2 0", "unpoke b -1 0", "unpoke a 0 0", "slide a 5 left",
            "slide z 99 left", "slide b 5 right",
        ):
            refused(self, NoPlace, desk.say, row)
            self.assertEqual(shown(desk), before)

    def test_no_move(self):
        desk = laid()
        before = shown(desk)
        for row in ("uncurl knot 0", "poke a 5 left 5 right", "unpoke knot 0 1", "unpoke knot 0 0", "slide knot 0 left"):
            refused(self, NoMove, desk.say, row)
            self.assertEqual(shown(desk), before)

    def test_too_many(self):
        desk = laid()
        for drawing in too_many():
            desk.say("keep b " + show_drawing(drawing))
            before = shown(desk)
            for row in ("groups b", "counts b", "same b b", "same a b", "same b a"):
                refused(self, TooMany, desk.say, row)
                self.assertEqual(shown(desk), before)
            for row in ("show b", "mirror b", "turn b", "copy b new"):
                self.assertTrue(desk.say(row))

    def test_six_are_not_too_many(self):
        desk = Desk()
        desk.say("close a 2 1 1 1 1 1 1")
        self.assertEqual(desk.say("same a a"), "alike")
        self.assertTrue(desk.say("groups a").startswith("(0,4):Z "))
        self.assertTrue(desk.say("counts a").startswith("+1*q^4 "))

    def test_moves_of_many_crossings(self):
        # Moves are not bounded by how many crossings there are.
        desk = laid()
        self.assertEqual(desk.say("curl abcdefgh 0 + under"), "ok")
        self.assertEqual(desk.say("uncurl abcdefgh 7"), "ok")

    def test_names_of_more_than_sixty_figures(self):
        desk = Desk()
        desk.say(f"keep a {SIXTY} /")
        self.assertEqual(desk.say(f"curl a {SIXTY} + under"), "ok")
        self.assertEqual(desk.say("show a"), f"/ +{SIXTY},{SIXTY + 1},{SIXTY + 1},{SIXTY}")
        refused(self, NoText, desk.say, f"curl a {SIXTY + 1} + under")

    def test_answers_are_texts(self):
        desk = laid()
        for row in GOOD:
            try:
                self.assertIs(type(desk.say(row)), str)
            except (NoPlace, NoMove):
                pass

    def test_moves_as_told(self):
        # Any rows behind one another do to a kept drawing what the functions do to it.
        chance = random.Random(141)
        desk, drawing = Desk(), CURL
        desk.say("keep a " + show_drawing(CURL))
        for turn in range(150):
            name, other = chance.choice(names_of(drawing)), chance.choice(names_of(drawing))
            side, other_side = chance.choice(["left", "right"]), chance.choice(["left", "right"])
            j, k = chance.randrange(len(drawing[1]) + 1), chance.randrange(len(drawing[1]) + 1)
            deed, row, told = chance.choice([
                (curled, f"curl a {name} - over", (name, -1, "over")), (uncurled, f"uncurl a {k}", (k,)),
                (poked, f"poke a {name} {side} {other} {other_side}", (name, side, other, other_side)),
                (unpoked, f"unpoke a {j} {k}", (j, k)), (slid, f"slide a {name} {side}", (name, side)),
            ])
            try:
                after = deed(drawing, *told)
            except (NoPlace, NoMove) as refusal:
                refused(self, type(refusal), desk.say, row)
            else:
                self.assertEqual(desk.say(row), "ok")
                drawing = after
            self.assertEqual(desk.say("show a"), show_drawing(drawing))
            if len(drawing[1]) > 25:
                drawing = CURL
                desk.say("keep a " + show_drawing(CURL))


if __name__ == "__main__":
    unittest.main()
