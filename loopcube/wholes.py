"""Whole numbers: which things are some, and their greatest common divisors."""


def is_whole(thing):
    """Whether the thing is an int that is no truth."""
    return isinstance(thing, int) and not isinstance(thing, bool)


def are_wholes(things):
    """Whether each thing of a list or tuple is a whole number."""
    return all(is_whole(thing) for thing in things)


def is_place(thing, many):
    """Whether any thing is a place in a list of so many, from 0 on."""
    return is_whole(thing) and 0 <= thing < many


def common_divisor(one, other):
    """(g, s, t): the greatest common divisor g of both, which is s times one plus t times other."""
    s, next_s = 1, 0
    t, next_t = 0, 1
    while other != 0:
        times = one // other
        one, other = other, one - times * other
        s, next_s = next_s, s - times * next_s
        t, next_t = next_t, t - times * next_t
    if one < 0:
        return (-one, -s, -t)
    return (one, s, t)
