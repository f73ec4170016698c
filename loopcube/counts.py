"""Counts, dicts from weights to whole numbers other than 0: by groups and by openings."""

from loopcube.drawings import signs
from loopcube.groups import groups_of
from loopcube.openings import loops
from loopcube.words import all_openings, refuse_more_parts

MOST_PLAIN_PARTS = 9


def counts_of(drawing):
    """The free numbers at each weight, those of odd heights taken away."""
    told = {}
    for (height, weight), (free, numbers) in groups_of(drawing).items():
        told[weight] = told.get(weight, 0) + signed(height, free)
    return without_noughts(told)


def plain_counts(drawing):
    """The sum over all openings of (-1) ** height * q ** shift * (q + 1/q) ** loops."""
    refuse_more_parts(drawing, MOST_PLAIN_PARTS)
    above, below = signs(drawing)
    told = {}
    for opening in all_openings(drawing):
        ones = sum(opening)
        powers = {ones + above - 2 * below: signed(ones - below, 1)}
        for loop in loops(drawing, opening):
            powers = times_counts(powers, {1: 1, -1: 1})
        for weight, many in powers.items():
            told[weight] = told.get(weight, 0) + many
    return without_noughts(told)


def signed(height, number):
    """The number, or what takes it away where the height is odd."""
    return number if height % 2 == 0 else -number


def times_counts(one, other):
    """The product of two counts as sums of powers."""
    told = {}
    for weight, many in one.items():
        for other_weight, other_many in other.items():
            place = weight + other_weight
            told[place] = told.get(place, 0) + many * other_many
    return without_noughts(told)


def without_noughts(counts):
    """The counts in order of weights, but those that are 0."""
    return {weight: counts[weight] for weight in sorted(counts) if counts[weight] != 0}
