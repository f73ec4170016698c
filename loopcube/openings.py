"""Openings of a drawing's crossings, tuples of 0s and 1s, and the loops that are left behind them."""

from loopcube.ends import ends_round
from loopcube.errors import NoPlace
from loopcube.hanging import hung_together
from loopcube.wholes import are_wholes, is_place


def loops(drawing, opening):
    """The loops of an opening, each a list of names in order, in order of their first names."""
    rings, crossings = drawing
    refuse_no_opening(drawing, opening)
    pairs = []
    for crossing, bit in zip(crossings, opening):
        pairs.extend(joints(crossing, bit))
    marks = hung_together(pairs)
    found = {}
    for name in sorted(marks):
        found.setdefault(marks[name], []).append(name)
    return sorted([[ring] for ring in rings] + list(found.values()))


def joints(crossing, bit):
    """The two pairs of names that are joined where the crossing is opened."""
    first, second, third, fourth = [crossing[end] for end in ends_round(crossing)]
    if bit == 0:
        return [(first, second), (third, fourth)]
    return [(first, fourth), (second, third)]


def refuse_no_opening(drawing, thing):
    """Any thing that is no opening of the drawing is refused."""
    if not isinstance(thing, tuple) or len(thing) != len(drawing[1]):
        raise NoPlace("an opening is a tuple of a bit for each crossing")
    if not are_wholes(thing) or not all(bit in (0, 1) for bit in thing):
        raise NoPlace("an opening is a tuple of 0s and 1s")


def turning(drawing, opening, k):
    """How the loops of an opening become those of the next one at a place with 0."""
    refuse_no_opening(drawing, opening)
    if not is_place(k, len(opening)) or opening[k] == 1:
        raise NoPlace("the opening has no 0 at this place")
    before = loops(drawing, opening)
    after = loops(drawing, next_opening(opening, k))
    return change_at(drawing[1][k], before, after)


def next_opening(opening, k):
    """The opening with 1 at a place that has 0."""
    return opening[:k] + (1,) + opening[k + 1:]


def change_at(crossing, before, after):
    """Which loops are parted or joined at a crossing, by their places in both lists."""
    gone, new = met_by(crossing, before), met_by(crossing, after)
    if len(gone) == 1:
        return ("parted", gone[0], new[0], new[1])
    return ("joined", gone[0], gone[1], new[0])


def met_by(crossing, loop_list):
    """The places of the loops that come by a crossing: all others are left alone there."""
    return [k for k, loop in enumerate(loop_list) if any(name in loop for name in crossing[1:])]
