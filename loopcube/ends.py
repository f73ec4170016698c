"""Crossings (sign, under_in, under_out, over_in, over_out), their ends, and how one goes on there.

An end is told by its place in the crossing's tuple.
"""

UNDER_IN = 1
UNDER_OUT = 2
OVER_IN = 3
OVER_OUT = 4


def ends_round(crossing):
    """The ends of a crossing against the clock, from under_in on."""
    if crossing[0] == 1:
        return (UNDER_IN, OVER_OUT, UNDER_OUT, OVER_IN)
    return (UNDER_IN, OVER_IN, UNDER_OUT, OVER_OUT)


def with_the_clock(crossing, end):
    """The end that is the next one with the clock."""
    ends = ends_round(crossing)
    # Ahead of the first end comes the last one, which is what the place -1 means.
    return ends[ends.index(end) - 1]


def ins_of(crossings):
    """For each stretch that leads to a crossing: the crossing's place and the end."""
    return ends_found(crossings, (UNDER_IN, OVER_IN))


def outs_of(crossings):
    """For each stretch that comes from a crossing: the crossing's place and the end."""
    return ends_found(crossings, (UNDER_OUT, OVER_OUT))


def ends_found(crossings, ends):
    """For each name at one of these ends: the crossing's place and the end."""
    return {crossing[end]: (k, end) for k, crossing in enumerate(crossings) for end in ends}


def steps_along(crossings):
    """For each stretch the one behind it on the same cord."""
    steps = {}
    for sign, under_in, under_out, over_in, over_out in crossings:
        steps[under_in] = under_out
        steps[over_in] = over_out
    return steps


def renamed(crossings, in_names, out_names):
    """The crossings with the names of ins and of outs changed, where the dicts tell other ones."""
    return [
        (
            sign,
            in_names.get(under_in, under_in),
            out_names.get(under_out, under_out),
            in_names.get(over_in, over_in),
            out_names.get(over_out, over_out),
        )
        for sign, under_in, under_out, over_in, over_out in crossings
    ]
