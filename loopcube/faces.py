"""Faces and pieces of crossings, and whether these are flat.

A side (name, "left") is gone by along the stretch, (name, "right") back along it: so the face is
always at the left hand.
"""

from loopcube.ends import OVER_OUT, UNDER_OUT, ins_of, outs_of, with_the_clock
from loopcube.hanging import hung_together

SIDES = ("left", "right")


def face_from(crossings, name, side):
    """The sides of the face at this side, as one goes by."""
    return walked(crossings, ins_of(crossings), outs_of(crossings), (name, side))


def all_faces(crossings):
    """The faces, each a list of sides; each side stands in one of them."""
    ins, outs = ins_of(crossings), outs_of(crossings)
    seen = {}
    faces = []
    for name in ins:
        for side in SIDES:
            if (name, side) not in seen:
                face = walked(crossings, ins, outs, (name, side))
                for place in face:
                    seen[place] = True
                faces.append(face)
    return faces


def walked(crossings, ins, outs, start):
    """The sides that one goes by from this one until one is back."""
    face = [start]
    place = next_side(crossings, ins, outs, start)
    while place != start:
        face.append(place)
        place = next_side(crossings, ins, outs, place)
    return face


def next_side(crossings, ins, outs, place):
    """The side behind this one: on by the end that is next with the clock."""
    name, side = place
    k, end = ins[name] if side == "left" else outs[name]
    onward = with_the_clock(crossings[k], end)
    if onward in (UNDER_OUT, OVER_OUT):
        return (crossings[k][onward], "left")
    return (crossings[k][onward], "right")


def pieces(crossings):
    """For each stretch a number of its piece: alike for those that hang together by crossings."""
    return hung_together([crossing[1:] for crossing in crossings])


def is_flat(crossings):
    """Whether each piece has two faces more than crossings."""
    marks = pieces(crossings)
    surplus = {mark: 0 for mark in marks.values()}
    for face in all_faces(crossings):
        surplus[marks[face[0][0]]] += 1
    for crossing in crossings:
        surplus[marks[crossing[1]]] -= 1
    return all(many == 2 for many in surplus.values())
