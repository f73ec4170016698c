"""Drawings of closed cords: (rings, crossings)."""

from loopcube.ends import renamed, steps_along
from loopcube.errors import NoPlace, NoWord
from loopcube.faces import SIDES, face_from, is_flat
from loopcube.wholes import are_wholes, is_whole

MOST_STRANDS = 6


def is_drawing(thing):
    """Whether any thing is a drawing."""
    if not isinstance(thing, tuple) or len(thing) != 2:
        return False
    rings, crossings = thing
    if not isinstance(rings, list) or not are_wholes(rings):
        return False
    if not isinstance(crossings, list) or not all(is_crossing(crossing) for crossing in crossings):
        return False
    return are_joined(rings, crossings) and is_flat(crossings)


def is_crossing(thing):
    """Whether any thing is a sign and four names."""
    if not isinstance(thing, tuple) or len(thing) != 5:
        return False
    return are_wholes(thing) and thing[0] in (1, -1)


def are_joined(rings, crossings):
    """Whether each name of a crossing is once an in and once an out, and no ring; rings are unlike."""
    ins = [name for crossing in crossings for name in (crossing[1], crossing[3])]
    outs = [name for crossing in crossings for name in (crossing[2], crossing[4])]
    return sorted(ins) == sorted(outs) and len(set(ins + rings)) == len(ins + rings)


def names_of(drawing):
    """The names of rings and stretches, in order."""
    rings, crossings = drawing
    return sorted(rings + list(steps_along(crossings)))


def has_name(drawing, name):
    """Whether any thing is a name of the drawing."""
    return is_whole(name) and name in names_of(drawing)


def refuse_no_name(drawing, name):
    """Any thing that is no name of the drawing is refused."""
    if not has_name(drawing, name):
        raise NoPlace("no stretch or ring has this name")


def cords(drawing):
    """For each closed cord its stretches along it from the least one on, in order of first names."""
    rings, crossings = drawing
    steps = steps_along(crossings)
    told = [[ring] for ring in rings]
    seen = {}
    for name in sorted(steps):
        if name not in seen:
            cord = cord_from(steps, name)
            for stretch in cord:
                seen[stretch] = True
            told.append(cord)
    return sorted(told)


def cord_from(steps, start):
    """The stretches along a cord, from this one until one is back."""
    cord = [start]
    name = steps[start]
    while name != start:
        cord.append(name)
        name = steps[name]
    return cord


def face_at(drawing, name, side):
    """The sides (name, side) of the face at this side of a stretch, each once."""
    rings, crossings = drawing
    if not has_name(drawing, name) or name in rings:
        raise NoPlace("no stretch has this name")
    if side not in SIDES:
        raise NoPlace("a side is left or right")
    return face_from(crossings, name, side)


def signs(drawing):
    """How many crossings have the sign 1, and how many -1."""
    told = [crossing[0] for crossing in drawing[1]]
    return (told.count(1), told.count(-1))


def mirrored(drawing):
    """The drawing with under and over changed about at each crossing."""
    rings, crossings = drawing
    return (
        list(rings),
        [
            (-sign, over_in, over_out, under_in, under_out)
            for sign, under_in, under_out, over_in, over_out in crossings
        ],
    )


def turned_about(drawing):
    """The drawing with each cord gone along the other way."""
    rings, crossings = drawing
    return (
        list(rings),
        [
            (sign, under_out, under_in, over_out, over_in)
            for sign, under_in, under_out, over_in, over_out in crossings
        ],
    )


def named_anew(drawing, by):
    """The drawing with each name changed as the dict tells."""
    rings, crossings = drawing
    return ([by[ring] for ring in rings], renamed(crossings, by, by))


def beside(one, other):
    """Both drawings as one, the names of the second moved behind those of the first."""
    move = move_behind(one, other)
    rings, crossings = named_anew(other, {name: name + move for name in names_of(other)})
    return (one[0] + rings, one[1] + crossings)


def move_behind(one, other):
    """By how much the second's names are moved when it is put beside the first."""
    names, other_names = names_of(one), names_of(other)
    if not names or not other_names:
        return 0
    return names[-1] + 1 - other_names[0]


def knit(one, name, other, other_name):
    """Both drawings beside one another, with a cord of each joined into one at these names."""
    refuse_no_name(one, name)
    refuse_no_name(other, other_name)
    second = other_name + move_behind(one, other)
    rings, crossings = beside(one, other)
    if second in rings:
        rings.remove(second)
    elif name in rings:
        rings.remove(name)
    else:
        crossings = renamed(crossings, {name: second, second: name}, {})
    return (rings, crossings)


def closing(strands, letters):
    """The closing of a word of letters on so many strands."""
    refuse_no_word(strands, letters)
    tops = list(range(strands))
    crossings = []
    for at, letter in enumerate(letters):
        k = abs(letter) - 1
        low, high = strands + 2 * at, strands + 2 * at + 1
        if letter > 0:
            crossings.append((1, tops[k + 1], low, tops[k], high))
        else:
            crossings.append((-1, tops[k], high, tops[k + 1], low))
        tops[k], tops[k + 1] = low, high
    # A cord that ends at a place goes on at the same place at the beginning, whose name is the place.
    ends = {tops[place]: place for place in range(strands)}
    rings = [place for place in range(strands) if tops[place] == place]
    return (rings, renamed(crossings, {}, ends))


def refuse_no_word(strands, letters):
    """Strands from 1 to 6, and a list of letters that cross two of them."""
    if not is_whole(strands) or strands < 1 or strands > MOST_STRANDS:
        raise NoWord("strands are a whole number from 1 to 6")
    if not isinstance(letters, list):
        raise NoWord("letters are a list")
    for letter in letters:
        if not is_whole(letter) or letter == 0 or abs(letter) >= strands:
            raise NoWord("a letter is a whole number other than 0, less in size than the strands")
