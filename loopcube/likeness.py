"""Whether the groups of two drawings are alike: a paper that shows it, or a place where they are not."""

from loopcube.cube import Cube
from loopcube.groups import groups_in
from loopcube.splits import parts_of
from loopcube.tables import nought
from loopcube.words import spans_of


def likeness(one, other):
    """("alike", paper), or ("unlike", height, weight, the one's group there, the other's)."""
    cube, other_cube = Cube(one), Cube(other)
    groups, other_groups = groups_in(cube), groups_in(other_cube)
    place = first_unlike(groups, other_groups)
    if place is None:
        return ("alike", paper_for(cube, other_cube))
    height, weight = place
    return ("unlike", height, weight, groups.get(place, (0, [])), other_groups.get(place, (0, [])))


def first_unlike(groups, other_groups):
    """The first (height, weight), in order of weights, then heights, where groups are unlike; else None."""
    unlike = [
        (weight, height)
        for height, weight in list(groups) + list(other_groups)
        if groups.get((height, weight)) != other_groups.get((height, weight))
    ]
    if not unlike:
        return None
    weight, height = min(unlike)
    return (height, weight)


def paper_for(cube, other_cube):
    """A paper that stands for two drawings whose groups are alike."""
    paper = []
    for weight, span in spans_of(list(cube.words) + list(other_cube.words)).items():
        parts, other_parts = parts_along(cube, span, weight), parts_along(other_cube, span, weight)
        for at in range(len(parts)):
            paper.append((
                span[0] + at,
                weight,
                carried(parts[at], other_parts[at]),
                carried(other_parts[at], parts[at]),
                filled(parts, at),
                filled(other_parts, at),
            ))
    return paper


def parts_along(cube, span, weight):
    """The parts of a split of the row of tables of a weight, for each height of the span."""
    return parts_of(cube.columns_along(cube.words_along(span, weight)))


def carried(parts, other_parts):
    """The table that carries each part of the first that has a group to its like of the second."""
    told = nought(len(other_parts), len(parts))
    for part, other_part in zip(parts_with_groups(parts), parts_with_groups(other_parts)):
        put_down(told, 1, other_part[1], part[2])
    return told


def parts_with_groups(parts):
    """The parts that are free, or lead or are led to by a number above 1, in order of their marks.

    Where groups are alike, so are the kinds and numbers in this order, and a part that leads stands among
    those that lead as the one to which it leads stands among those that are led to.
    """
    told = [part for part in parts if part[0] == ("free",) or part[0][2] > 1]
    return sorted(told, key=lambda part: part[0])


def filled(parts, at):
    """The table that takes each part that is led to by 1 back along that, with the sign turned."""
    told = nought(len(parts[at - 1]) if at > 0 else 0, len(parts[at]))
    for mark, column, row in parts[at]:
        if mark[0] == "from" and mark[2] == 1:
            put_down(told, -1, parts[at - 1][mark[1]][1], row)
    return told


def put_down(table, number, column, row):
    """A column times a row is put to the table so many times."""
    for i, entry in column.items():
        for k, more in row.items():
            table[2][i][k] += number * entry * more
