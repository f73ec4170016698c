"""Models by which the program is looked at: cords as rounds of passes, openings as sets of names.

A pass is (key of a crossing, "under" or "over"). A cord is a list of [name, pass]: the stretch of that
name leads to that pass, and behind it the next stretch of the list begins, round about.
"""

import functools
import itertools

from rows import smith
from support import ends_against_clock


class Passes:
    """A drawing taken apart into rings, signs by keys, and cords."""

    def __init__(self, drawing):
        rings, crossings = drawing
        self.rings = list(rings)
        self.signs = {key: crossing[0] for key, crossing in enumerate(crossings)}
        to, behind = {}, {}
        for key, (sign, under_in, under_out, over_in, over_out) in enumerate(crossings):
            to[under_in], behind[key, "under"] = (key, "under"), under_out
            to[over_in], behind[key, "over"] = (key, "over"), over_out
        self.cords = []
        while to:
            name = next(iter(to))
            cord = []
            while name in to:
                step = to.pop(name)
                cord.append([name, step])
                name = behind[step]
            self.cords.append(cord)

    def drawn(self):
        """The drawing, its crossings in order of keys put in."""
        ends = {}
        for cord in self.cords:
            for (name, step), (onward, later) in zip(cord, cord[1:] + cord[:1]):
                ends[step] = (name, onward)
        crossings = [(sign, *ends[key, "under"], *ends[key, "over"]) for key, sign in self.signs.items()]
        return (list(self.rings), crossings)

    def names(self):
        """All names."""
        return self.rings + [name for cord in self.cords for name, step in cord]

    def put_in(self, name, steps, names):
        """The passes are put on the stretch or ring, parted by new stretches of these names."""
        if name in self.rings:
            self.rings.remove(name)
            self.cords.append([[name, steps[0]]] + [[new, step] for new, step in zip(names, steps[1:])])
            return
        for cord in self.cords:
            for at, (found, last) in enumerate(cord):
                if found == name:
                    parts = [[part, step] for part, step in zip([name] + names, steps + [last])]
                    cord[at:at + 1] = parts
                    return

    def take_out(self, keys, first_names):
        """The crossings go; each stretch ahead of what goes keeps its name.

        A cord that has no pass left is a ring, named by the first of these names that is on it.
        """
        gone = []
        for cord in self.cords:
            if all(step[0] in keys for name, step in cord):
                gone.append(cord)
        for name in first_names:
            for cord in gone:
                if name in [found for found, step in cord]:
                    self.rings.append(name)
                    gone = [other for other in gone if other is not cord]
                    self.cords.remove(cord)
        for cord in self.cords:
            start = next(at for at, (name, step) in enumerate(cord) if step[0] not in keys)
            turned = cord[start + 1:] + cord[:start + 1]
            kept, name = [], None
            for found, step in turned:
                name = found if name is None else name
                if step[0] not in keys:
                    kept.append([name, step])
                    name = None
            cord[:] = kept
        for key in keys:
            del self.signs[key]

    def fresh(self, many):
        """So many names, each one more than the greatest ahead."""
        top = max(self.names())
        return [top + k + 1 for k in range(many)]

    def crossing(self, key):
        """(under_in, under_out, over_in, over_out) of a crossing."""
        return self.drawn()[1][list(self.signs).index(key)][1:]


def curled_model(drawing, e, sign, way):
    """Point 11 with passes."""
    model = Passes(drawing)
    key = len(drawing[1])
    model.signs[key] = sign
    ways = ["under", "over"] if way == "under" else ["over", "under"]
    model.put_in(e, [(key, way) for way in ways], model.fresh(2))
    return model.drawn()


def uncurled_model(drawing, k):
    """Point 11 with passes; None where there is no curl."""
    sign, under_in, under_out, over_in, over_out = drawing[1][k]
    if under_out == over_in:
        first = under_in
    elif over_out == under_in:
        first = over_in
    else:
        return None
    model = Passes(drawing)
    model.take_out([k], [first])
    return model.drawn()


# By both sides, e's first: whether both go alike, the first crossing's sign.
POKES = {
    ("right", "left"): (True, 1),
    ("left", "right"): (True, -1),
    ("right", "right"): (False, -1),
    ("left", "left"): (False, 1),
}


def poked_model(drawing, e, side, f, other_side):
    """Point 12 with passes."""
    alike, sign = POKES[side, other_side]
    model = Passes(drawing)
    first, second = len(drawing[1]), len(drawing[1]) + 1
    fresh = model.fresh(4)
    over_names = fresh[:1] if e in drawing[0] else fresh[:2]
    under_names = fresh[len(over_names):][:1 if f in drawing[0] else 2]
    model.signs[first], model.signs[second] = sign, -sign
    model.put_in(e, [(first, "over"), (second, "over")], over_names)
    unders = [(first, "under"), (second, "under")]
    model.put_in(f, unders if alike else unders[::-1], under_names)
    return model.drawn()


def follows(drawing, level, one, other):
    """Whether the second crossing comes straight behind the first on this level."""
    at = 1 if level == "under" else 3
    return drawing[1][one][at + 1] == drawing[1][other][at]


def unpoked_model(drawing, j, k):
    """Point 12 with passes; None where the two can't be taken out."""
    if j == k or drawing[1][j][0] == drawing[1][k][0]:
        return None
    firsts = []
    for level, at in (("over", 3), ("under", 1)):
        if follows(drawing, level, j, k):
            firsts.append(drawing[1][j][at])
        elif follows(drawing, level, k, j):
            firsts.append(drawing[1][k][at])
        else:
            return None
    model = Passes(drawing)
    model.take_out([j, k], firsts)
    return model.drawn()


def slid_model(drawing, face):
    """Point 13 with passes: at each of the three stretches the passes at its ends are changed about."""
    model = Passes(drawing)
    for x, side in face:
        for cord in model.cords:
            for at, (name, step) in enumerate(cord):
                if name == x:
                    cord[at][1], cord[at - 1][1] = cord[at - 1][1], cord[at][1]
    return model.drawn()


def can_slide_model(drawing, face):
    """Whether a face can be slid, by the words of point 13."""
    names = [name for name, side in face]
    if len(face) != 3 or len(set(names)) != 3:
        return False
    model = Passes(drawing)
    levels, corners = [], set()
    for cord in model.cords:
        for at, (name, step) in enumerate(cord):
            if name in names:
                corners |= {step[0], cord[at - 1][1][0]}
                levels.append([step[1], cord[at - 1][1][1]].count("over"))
    return len(corners) == 3 and sorted(levels) == [0, 1, 2]


def loops_model(drawing, opening):
    """Point 14: sets that hang together, merged until nothing more is joined."""
    return [list(loop) for loop in kept_loops(tuple(drawing[0]), tuple(drawing[1]), opening)]


@functools.lru_cache(4096)
def kept_loops(rings, crossings, opening):
    """The loops as tuples, kept, as many words have one opening."""
    parts = [{ring} for ring in rings]
    for crossing, bit in zip(crossings, opening):
        first, second, third, fourth = [name for name, is_in in ends_against_clock(crossing)]
        if bit == 0:
            parts += [{first, second}, {third, fourth}]
        else:
            parts += [{first, fourth}, {second, third}]
    merged = True
    while merged:
        merged = False
        for one, other in itertools.combinations(parts, 2):
            if one & other:
                parts = [part for part in parts if part is not one and part is not other] + [one | other]
                merged = True
                break
    return tuple(sorted(tuple(sorted(part)) for part in parts))


def turning_model(drawing, opening, k):
    """Point 15, by which loops are in one list alone."""
    before = loops_model(drawing, opening)
    after = loops_model(drawing, opening[:k] + (1,) + opening[k + 1:])
    gone = [at for at, loop in enumerate(before) if loop not in after]
    new = [at for at, loop in enumerate(after) if loop not in before]
    return (("parted", *gone, *new) if len(gone) == 1 else ("joined", *gone, *new))


def all_openings(drawing):
    """The openings of a drawing, in order."""
    return list(itertools.product((0, 1), repeat=len(drawing[1])))


def sign_counts(drawing):
    """How many crossings have 1, how many -1."""
    told = [crossing[0] for crossing in drawing[1]]
    return told.count(1), told.count(-1)


def word_places(drawing):
    """All words by (height, weight), in order, by the counts of point 16."""
    above, below = sign_counts(drawing)
    found = {}
    for opening in all_openings(drawing):
        many = len(loops_model(drawing, opening))
        for marks in itertools.product((0, 1), repeat=many):
            ones = opening.count(1)
            height = ones - below
            weight = marks.count(0) - marks.count(1) + ones + above - 2 * below
            found.setdefault((height, weight), []).append((opening, marks))
    return found


def leads_model(drawing, word):
    """Point 17, with the marks kept by loops and not by places."""
    opening, marks = word
    before = loops_model(drawing, opening)
    mark_of = {tuple(loop): mark for loop, mark in zip(before, marks)}
    told = {}
    for k, bit in enumerate(opening):
        if bit == 1:
            continue
        onward = opening[:k] + (1,) + opening[k + 1:]
        after = [tuple(loop) for loop in loops_model(drawing, onward)]
        gone = [loop for loop in mark_of if loop not in after]
        new = [loop for loop in after if loop not in mark_of]
        had = sorted(mark_of[loop] for loop in gone)
        choices = {
            (0, 0): [(0,)], (0, 1): [(1,)], (1, 1): [],
            (0,): [(1, 0), (0, 1)], (1,): [(1, 1)],
        }[tuple(had)]
        for choice in choices:
            marked = {**mark_of, **dict(zip(new, choice))}
            told[onward, tuple(marked[loop] for loop in after)] = (-1) ** opening[:k].count(1)
    return told


def plain_sum(drawing):
    """The sum over all openings of (-1)^height q^shift (q + 1/q)^loops, as a dict of powers."""
    above, below = sign_counts(drawing)
    total = {}
    for opening in all_openings(drawing):
        ones = opening.count(1)
        powers = {ones + above - 2 * below: (-1) ** (ones - below)}
        for loop in loops_model(drawing, opening):
            spread = {}
            for power, many in powers.items():
                for step in (1, -1):
                    spread[power + step] = spread.get(power + step, 0) + many
            powers = spread
        for power, many in powers.items():
            total[power] = total.get(power, 0) + many
    return {power: many for power, many in total.items() if many}


class CubeModel:
    """The words and the tables of a drawing, kept by places; words may be let by as the asker tells."""

    def __init__(self, drawing, let_by=None, more_weight=0):
        self.drawing = drawing
        self.words = {}
        for (height, weight), words in word_places(drawing).items():
            kept = [word for word in words if let_by is None or let_by(word)]
            if kept:
                self.words[height, weight + more_weight] = kept
        self.tables = {}

    def size(self, height, weight):
        """How many words a place has."""
        return len(self.words.get((height, weight), []))

    def table(self, height, weight):
        """The rows of the table of a place."""
        if (height, weight) not in self.tables:
            columns = self.words.get((height, weight), [])
            rows = self.words.get((height + 1, weight), [])
            led = [leads_model(self.drawing, word) for word in columns]
            self.tables[height, weight] = [[numbers.get(word, 0) for numbers in led] for word in rows]
        return self.tables[height, weight]

    def groups(self):
        """The groups by the divisors of each table."""
        told = {}
        for height, weight in self.words:
            going, coming = smith(self.table(height, weight)), smith(self.table(height - 1, weight))
            group = (self.size(height, weight) - len(going) - len(coming), [number for number in coming if number > 1])
            if group != (0, []):
                told[height, weight] = group
        return told


def groups_model(drawing):
    """Point 20 by the words, with the divisors that the tests find themselves."""
    return CubeModel(drawing).groups()


def groups_without_model(drawing, name):
    """Point 27 by the words."""
    return model_without(drawing, name).groups()


def model_without(drawing, name):
    """The words with a name left out, and their tables."""
    def is_marked(word):
        return any(mark for loop, mark in zip(loops_model(drawing, word[0]), word[1]) if name in loop)

    return CubeModel(drawing, is_marked, 1)
