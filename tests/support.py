"""What several tests use: things of every kind, looks at ownership and refusals, and makers of drawings."""

import copy
import random

from loopcube import errors
from loopcube.drawings import beside, closing, knit, mirrored, named_anew, names_of, turned_about

ALL_ERRORS = [
    errors.NoTable, errors.NoPlace, errors.NoMove, errors.NoWord, errors.NoText, errors.TooMany,
]

SIXTY = 10 ** 60 - 1


def nested(core, depth, wrap):
    """The core within so many lists or tuples."""
    for level in range(depth):
        core = wrap([core])
    return core


def any_things():
    """Things built of whole numbers, truths, None, texts, lists and tuples, up to eight deep."""
    plain = [None, True, False, 0, 1, -1, 2, 7, -7, SIXTY, -SIXTY, "", "a", "left", "right", "0", "()", "left "]
    flat = [[], (), [0], (0,), [1, 2], (1, 2), [None], (True,), ["left"], ("right",), [[]], ((),), [()], ([],)]
    triples = [(0, 0), (0, 0, [], []), [0, 0, []], (1, 1, 1), (None, None, None), ("", "", ""), ([], [], [])]
    deep = [nested(core, 8, wrap) for core in (0, "a", True) for wrap in (list, tuple)]
    mixed = [[1, ("a", [None, (True, [2, ([], ())])])], ([[[]]], ((((1,),),),), "x")]
    return plain + flat + triples + deep + mixed


def things_within(thing):
    """All lists and dicts at all places of the thing, also itself."""
    found = []
    if isinstance(thing, (list, dict)):
        found.append(thing)
    if isinstance(thing, dict):
        parts = list(thing.keys()) + list(thing.values())
    elif isinstance(thing, (list, tuple)):
        parts = thing
    else:
        parts = []
    for part in parts:
        found += things_within(part)
    return found


def spoil(thing):
    """Each list and dict within is changed."""
    for found in things_within(thing):
        if isinstance(found, list):
            found.reverse()
            found.append("spoilt")
            found.insert(0, None)
        else:
            found.clear()


def told_as_own(test, deed, *handed):
    """The answer, behind a look at all that point 2 says of what is handed in and told."""
    # The look spoils what it hands in, so it hands in its own; what is one thing stays one.
    handed = copy.deepcopy(handed)
    before = copy.deepcopy(handed)
    answer = deed(*handed)
    test.assertEqual(repr(handed), repr(before), "what was handed in is changed")
    places = [id(found) for found in things_within(answer)]
    test.assertEqual(len(places), len(set(places)), "a list stands at two places")
    test.assertFalse(set(places) & {id(found) for found in things_within(handed)}, "a handed-in list is told")
    first = copy.deepcopy(answer)
    spoil(answer)
    test.assertEqual(repr(handed), repr(before), "what was told hangs on what was handed in")
    again = deed(*handed)
    test.assertEqual(repr(again), repr(first), "told otherwise when asked again")
    spoil(handed)
    test.assertEqual(again, first, "what was handed in changes what was told")
    return first


def refused(test, error, deed, *handed):
    """The deed is refused with just this class, and changes nothing."""
    before = repr(handed)
    with test.assertRaises(errors.CordError) as caught:
        deed(*handed)
    test.assertIs(type(caught.exception), error, before[:200])
    test.assertIsInstance(caught.exception, ValueError)
    for other in ALL_ERRORS:
        test.assertEqual(isinstance(caught.exception, other), other is error)
    test.assertEqual(repr(handed), before)


def random_word(chance, most=9):
    """Strands and letters."""
    strands = chance.randint(1, 6)
    if strands == 1:
        return strands, []
    letters = [k for k in range(1 - strands, strands) if k != 0]
    return strands, [chance.choice(letters) for k in range(chance.randint(0, most))]


def shuffled_names(chance, drawing):
    """The drawing with names of all sizes."""
    names = names_of(drawing)
    pool = list(range(-30, 30)) + [10 ** k for k in range(2, 60)] + [-(10 ** k) for k in range(2, 60)]
    fresh = chance.sample(pool, len(names)) if len(names) <= len(pool) else list(range(len(names)))
    return named_anew(drawing, dict(zip(names, fresh)))


CURL = ([], [(1, 0, 1, 1, 0)])
TREFOIL = ([], [(1, 1, 2, 0, 3), (1, 3, 4, 2, 5), (1, 5, 0, 4, 1)])
BY_HAND = [
    ([], []),
    ([5], []),
    ([7, -3, 0], []),
    CURL,
    ([], [(-1, 0, 1, 1, 0)]),
    ([], [(1, 1, 0, 0, 1)]),
    ([9], [(-1, 1, 0, 0, 1)]),
    TREFOIL,
]


def many_drawings(count=60, seed=10):
    """Drawings of all kinds, put together in all ways."""
    chance = random.Random(seed)
    told = list(BY_HAND)
    while len(told) < count:
        drawing = closing(*random_word(chance))
        other = chance.choice(told)
        way = chance.randrange(6)
        if way == 1:
            drawing = mirrored(drawing)
        elif way == 2:
            drawing = turned_about(drawing)
        elif way == 3 and len(other[1]) < 12:
            drawing = beside(drawing, other)
        elif way == 4 and names_of(other) and len(other[1]) < 12:
            drawing = knit(drawing, chance.choice(names_of(drawing)), other, chance.choice(names_of(other)))
        if chance.random() < 0.6:
            drawing = shuffled_names(chance, drawing)
        told.append(drawing)
    return told


def ends_against_clock(crossing):
    """The ends of a crossing as (name, whether it is an in), as point 7 has them."""
    sign, under_in, under_out, over_in, over_out = crossing
    if sign == 1:
        return [(under_in, True), (over_out, False), (under_out, False), (over_in, True)]
    return [(under_in, True), (over_in, True), (under_out, False), (over_out, False)]


def corner_faces(crossings):
    """The faces as sets of sides, found by corners and not by going along.

    The corner i of a crossing lies between its end i and the next one against the clock. Each side
    of a stretch joins a corner at its beginning to one at its end.
    """
    at = {}
    for k, crossing in enumerate(crossings):
        for i, (name, is_in) in enumerate(ends_against_clock(crossing)):
            at[name, is_in] = (k, i)
    group = {(k, i): {(k, i)} for k in range(len(crossings)) for i in range(4)}
    sides = {}
    for name, is_in in at:
        (k, i), (m, j) = at[name, False], at[name, True]
        sides[name, "left"] = ((k, i), (m, (j - 1) % 4))
        sides[name, "right"] = ((k, (i - 1) % 4), (m, j))
    for one, other in sides.values():
        merged = group[one] | group[other]
        for corner in merged:
            group[corner] = merged
    faces = {}
    for side, (one, other) in sides.items():
        faces.setdefault(min(group[one]), set()).add(side)
    return list(faces.values())


def piece_count(crossings):
    """How many pieces the crossings make."""
    parts = []
    for crossing in crossings:
        names = set(crossing[1:])
        parts = [part for part in parts if not part & names] + [
            names.union(*[part for part in parts if part & names])
        ]
    return len(parts)


def no_names(drawing):
    """Things of all kinds that are no name of the drawing."""
    names = names_of(drawing)
    things = any_things() + [max(names + [0]) + 1, min(names + [0]) - 1, 10 ** 59 + 7]
    return [thing for thing in things if type(thing) is not int or thing not in names]


def no_places(many):
    """Things of all kinds that are no place in a list of so many."""
    things = any_things() + [many, many + 1, -many, -many - 1, -2, 400]
    return [thing for thing in things if type(thing) is not int or not 0 <= thing < many]


def few_parts():
    """Drawings with at most six crossings and rings together."""
    told = [drawing for drawing in many_drawings(80, 70) if len(drawing[0]) + len(drawing[1]) <= 6]
    return told + [
        closing(2, [1] * 6), closing(3, [1, -2, 1, -2, 1, -2]), ([1, 2, 3, 4, 5, 6], []),
        beside(TREFOIL, ([1, 2, 3], [])), beside(mirrored(CURL), closing(2, [-1, -1])),
    ]


def too_many():
    """Drawings with just one crossing or ring too many, and with more."""
    return [
        closing(2, [1] * 7), ([1, 2, 3, 4, 5, 6, 7], []), beside(closing(2, [-1] * 6), ([1], [])),
        beside(CURL, ([1, 2, 3, 4, 5, 6], [])), beside(TREFOIL, ([4, 3, 2, 1], [])), closing(6, [1, 2, 3, 4, 5] * 4),
    ]


def many_curls(many):
    """So many rings with a curl each, beside one another: of all drawings these have the most words."""
    told = ([], [])
    for k in range(many):
        told = beside(told, CURL)
    return told


def reordered(chance, drawing):
    """The drawing with its rings and its crossings in another order."""
    rings, crossings = drawing
    return (chance.sample(rings, len(rings)), chance.sample(crossings, len(crossings)))
