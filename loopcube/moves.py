"""Moves of the cords of a drawing: curls, pokes and slides, put in and taken out."""

from loopcube.drawings import face_at, names_of, refuse_no_name
from loopcube.ends import OVER_IN, OVER_OUT, UNDER_IN, UNDER_OUT, ins_of, outs_of, renamed
from loopcube.errors import NoMove, NoPlace
from loopcube.faces import SIDES, face_from, pieces
from loopcube.wholes import is_place, is_whole

WAYS = ("under", "over")


def curled(drawing, e, sign, way):
    """The drawing with a curl put into a stretch or ring."""
    refuse_no_name(drawing, e)
    if not is_whole(sign) or sign not in (1, -1):
        raise NoPlace("a sign is 1 or -1")
    if way not in WAYS:
        raise NoPlace("a way is under or over")
    rings, crossings = drawing
    m = names_of(drawing)[-1] + 1
    f = e if e in rings else m + 1
    if way == "under":
        crossing = (sign, e, m, m, f)
    else:
        crossing = (sign, m, f, e, m)
    return (without(rings, [e]), renamed(crossings, {e: f}, {}) + [crossing])


def uncurled(drawing, k):
    """The drawing with the curl at a crossing's place taken out."""
    refuse_no_crossing(drawing, k)
    rings, crossings = drawing
    sign, under_in, under_out, over_in, over_out = crossings[k]
    others = crossings[:k] + crossings[k + 1:]
    if under_out == over_in:
        return joined(rings, others, under_in, over_out)
    if over_out == under_in:
        return joined(rings, others, over_in, under_out)
    raise NoMove("there is no curl at this crossing")


def joined(rings, crossings, come, go):
    """A drawing whose crossings lack an in, come, and an out, go: both made one stretch or a ring."""
    if come == go:
        return (rings + [come], list(crossings))
    return (list(rings), renamed(crossings, {go: come}, {}))


def poked(drawing, e, side, f, other_side):
    """The drawing with the cord e poked over the cord f, out of the one's side into the other's."""
    refuse_no_name(drawing, e)
    refuse_no_name(drawing, f)
    if side not in SIDES or other_side not in SIDES:
        raise NoPlace("a side is left or right")
    if e == f or not can_meet(drawing, (e, side), (f, other_side)):
        raise NoMove("the one cannot be poked over the other")
    rings, crossings = drawing
    e1 = names_of(drawing)[-1] + 1
    e2 = e if e in rings else e1 + 1
    f1 = max(e1, e2) + 1
    f2 = f if f in rings else f1 + 1
    alike = side != other_side
    sign = 1 if alike == (side == "right") else -1
    unders = [(f, f1), (f1, f2)] if alike else [(f1, f2), (f, f1)]
    crossing = (sign, unders[0][0], unders[0][1], e, e1)
    other = (-sign, unders[1][0], unders[1][1], e1, e2)
    return (without(rings, [e, f]), renamed(crossings, {e: e2, f: f2}, {}) + [crossing, other])


def can_meet(drawing, place, other):
    """Whether two sides of unlike names lie at one face, or can be brought to one."""
    rings, crossings = drawing
    if place[0] in rings or other[0] in rings:
        return True
    marks = pieces(crossings)
    if marks[place[0]] != marks[other[0]]:
        return True
    return other in face_from(crossings, place[0], place[1])


def unpoked(drawing, j, k):
    """The drawing with two crossings taken out at which a cord goes over another and back."""
    refuse_no_crossing(drawing, j)
    refuse_no_crossing(drawing, k)
    rings, crossings = drawing
    one, other = crossings[j], crossings[k]
    if one[0] == other[0]:
        raise NoMove("the signs of the crossings are alike")
    over_in, over_out = outer_ends(one, other, OVER_IN, OVER_OUT)
    under_in, under_out = outer_ends(one, other, UNDER_IN, UNDER_OUT)
    others = [crossing for at, crossing in enumerate(crossings) if at not in (j, k)]
    rings, others = joined(rings, others, over_in, over_out)
    # The in of the over out may be the under one, which stands at none of the crossings that are left.
    if under_in == over_out:
        under_in = over_in
    return joined(rings, others, under_in, under_out)


def outer_ends(one, other, in_end, out_end):
    """The in of the first and the out of the second of two crossings that follow one another."""
    if one[out_end] == other[in_end]:
        return (one[in_end], other[out_end])
    if other[out_end] == one[in_end]:
        return (other[in_end], one[out_end])
    raise NoMove("the crossings do not follow one another")


def slid(drawing, e, side):
    """The drawing with the three stretches of a face slid over one another."""
    names = [name for name, its_side in face_at(drawing, e, side)]
    rings, crossings = drawing
    ins, outs = ins_of(crossings), outs_of(crossings)
    if not can_slide(names, ins, outs):
        raise NoMove("the face has no three stretches that can be slid")
    ends = [list(crossing) for crossing in crossings]
    for x in names:
        c, c_out = outs[x]
        d, d_in = ins[x]
        # Of one cord the in stands at the place ahead of its out.
        p, q = crossings[c][c_out - 1], crossings[d][d_in + 1]
        ends[d][d_in], ends[d][d_in + 1] = p, x
        ends[c][c_out - 1], ends[c][c_out] = x, q
    return (list(rings), [tuple(crossing) for crossing in ends])


def can_slide(names, ins, outs):
    """Whether a face's names are three, with three corners, one over, one under, one between."""
    if len(names) != 3 or len(set(names)) != 3:
        return False
    # Each corner is the end of one of the stretches, as each of them leads from corner to corner.
    if len({place[name][0] for name in names for place in (ins, outs)}) != 3:
        return False
    overs = [(ins[name][1], outs[name][1]) for name in names]
    return (OVER_IN, OVER_OUT) in overs and (UNDER_IN, UNDER_OUT) in overs and len(set(overs)) == 3


def without(rings, names):
    """The rings but those of these names."""
    return [ring for ring in rings if ring not in names]


def refuse_no_crossing(drawing, k):
    """Any thing that is no place of a crossing is refused."""
    if not is_place(k, len(drawing[1])):
        raise NoPlace("no crossing has this place")
