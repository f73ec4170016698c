"""Papers looked at by the words of point 24 alone, with sums that the tests make themselves."""

from models import CubeModel


def sparse(rows):
    """The rows as dicts of the numbers that are not 0."""
    return [{k: number for k, number in enumerate(row) if number} for row in rows]


def times(rows, others):
    """A product by such dicts."""
    told = []
    for row in rows:
        total = {}
        for k, number in row.items():
            for j, more in others[k].items():
                total[j] = total.get(j, 0) + number * more
        told.append({j: number for j, number in total.items() if number})
    return told


def plus(rows, others, number=1):
    """A sum, the second taken so many times."""
    told = []
    for row, other in zip(rows, others, strict=True):
        total = dict(row)
        for j, more in other.items():
            total[j] = total.get(j, 0) + number * more
        told.append({j: entry for j, entry in total.items() if entry})
    return told


def wanted_places(first, second):
    """The places of a paper, in order."""
    heights = {}
    for height, weight in list(first.words) + list(second.words):
        heights.setdefault(weight, []).append(height)
    return [
        (height, weight)
        for weight in sorted(heights)
        for height in range(min(heights[weight]), max(heights[weight]) + 1)
    ]


def is_rows(thing, high, wide):
    """Whether a part of a paper is a table of this size."""
    return (
        type(thing) is tuple and len(thing) == 3 and thing[:2] == (high, wide)
        and type(thing[0]) is int and type(thing[1]) is int and type(thing[2]) is list and len(thing[2]) == high
        and all(type(row) is list and len(row) == wide for row in thing[2])
        and all(type(entry) is int for row in thing[2] for entry in row)
    )


def paper_fault(one, other, paper):
    """What is wrong with a paper, or None where it stands."""
    first, second = CubeModel(one), CubeModel(other)
    wanted = wanted_places(first, second)
    if type(paper) is not list or [row[:2] for row in paper] != wanted:
        return "other places"
    found = {}
    for row in paper:
        if type(row) is not tuple or len(row) != 6:
            return "other rows"
        height, weight, forth, back, fill, other_fill = row
        many, other_many = first.size(height, weight), second.size(height, weight)
        if not (
            is_rows(forth, other_many, many) and is_rows(back, many, other_many)
            and is_rows(fill, first.size(height - 1, weight), many)
            and is_rows(other_fill, second.size(height - 1, weight), other_many)
        ):
            return f"other sizes at {height}, {weight}"
        found[height, weight] = [sparse(part[2]) for part in (forth, back, fill, other_fill)]
    for place in wanted:
        fault = sums_fault(first, second, found, *place)
        if fault:
            return f"{fault} at {place}"
    return None


def sums_fault(first, second, found, height, weight):
    """Which sum does not hold at a place."""
    forth, back, fill, other_fill = found[height, weight]
    # What is not in the list is a nought of the fitting size.
    nothing = [
        [{} for k in range(second.size(height + 1, weight))], [{} for k in range(first.size(height + 1, weight))],
        [{} for k in range(first.size(height, weight))], [{} for k in range(second.size(height, weight))],
    ]
    next_forth, next_back, next_fill, next_other_fill = found.get((height + 1, weight), nothing)
    out, other_out = sparse(first.table(height, weight)), sparse(second.table(height, weight))
    ahead, other_ahead = sparse(first.table(height - 1, weight)), sparse(second.table(height - 1, weight))
    if times(next_forth, out) != times(other_out, forth):
        return "forth does not go with the tables"
    if times(next_back, other_out) != times(out, back):
        return "back does not go with the tables"
    stay = [{k: 1} for k in range(first.size(height, weight))]
    if plus(times(back, forth), stay, -1) != plus(times(ahead, fill), times(next_fill, out)):
        return "forth and back is not filled"
    stay = [{k: 1} for k in range(second.size(height, weight))]
    if plus(times(forth, back), stay, -1) != plus(times(other_ahead, other_fill), times(next_other_fill, other_out)):
        return "back and forth is not filled"
    return None


def turned_paper(paper):
    """The paper for the drawings the other way about."""
    return [(height, weight, back, forth, other_fill, fill) for height, weight, forth, back, fill, other_fill in paper]
