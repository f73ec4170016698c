"""Drawings, groups and counts as texts, and drawings read from them."""

from loopcube.drawings import is_drawing
from loopcube.errors import NoText

FIGURES = "0123456789"
MOST_FIGURES = 60
SIGN_TEXTS = {1: "+", -1: "-"}
SIGNS = {"+": 1, "-": -1}


def show_drawing(drawing):
    """The rings, a slash, and the crossings of a drawing."""
    rings, crossings = drawing
    words = [written_names(rings)] if rings else []
    words.append("/")
    for crossing in crossings:
        words.append(SIGN_TEXTS[crossing[0]] + written_names(crossing[1:]))
    return " ".join(words)


def show_groups(groups):
    """The groups place by place, in order of heights, then weights."""
    if not groups:
        return "none"
    return " ".join([written_place(place) + ":" + written_group(groups[place]) for place in sorted(groups)])


def written_place(place):
    """A height and a weight."""
    height, weight = place
    return "(" + written(height) + "," + written(weight) + ")"


def written_group(group):
    """The free ones and the divisors of a group."""
    free, divisors = group
    parts = ["Z/" + written(number) for number in divisors]
    if free == 1:
        parts = ["Z"] + parts
    elif free > 1:
        parts = ["Z^" + written(free)] + parts
    return "+".join(parts)


def show_counts(counts):
    """The counts in order of weights."""
    if not counts:
        return "0"
    return " ".join([written_count(weight, counts[weight]) for weight in sorted(counts)])


def written_count(weight, many):
    """One count with its sign and its power."""
    sign = "-" if many < 0 else "+"
    return sign + written(abs(many)) + "*q^" + written(weight)


def written_names(names):
    """Names with commas between."""
    return ",".join([written(name) for name in names])


def written(number):
    """A whole number by its figures."""
    sign = "-" if number < 0 else ""
    rest = abs(number)
    parts = []
    # Sixty figures at a time, as Python itself refuses to write numbers of some thousands at once.
    while rest >= 10 ** 60:
        rest, part = divmod(rest, 10 ** 60)
        parts.append(str(part).zfill(60))
    return sign + str(rest) + "".join(reversed(parts))


def read_drawing(text):
    """The drawing that is written so; any other thing is refused."""
    if not isinstance(text, str):
        raise NoText("only a text is read")
    words = text.split(" ")
    rings = []
    if words[0] != "/":
        rings = read_names(words[0])
        words = words[1:]
    if not words or words[0] != "/":
        raise NoText("a slash stands behind the rings")
    drawing = (rings, [read_crossing(word) for word in words[1:]])
    if not is_drawing(drawing):
        raise NoText("this is no drawing")
    return drawing


def read_crossing(word):
    """A crossing: its sign and its four names."""
    names = read_names(word[1:])
    if word[:1] not in SIGNS or len(names) != 4:
        raise NoText("a crossing is a sign and four names")
    return (SIGNS[word[:1]], names[0], names[1], names[2], names[3])


def read_names(word):
    """Names with commas between, at least one."""
    return [read_number(part) for part in word.split(",")]


def read_number(word):
    """A whole number of at most sixty figures, as it is written."""
    figures = word[1:] if word.startswith("-") else word
    if not figures or len(figures) > MOST_FIGURES or not all(sign in FIGURES for sign in figures):
        raise NoText("this is no number")
    if figures[0] == "0" and word != "0":
        raise NoText("a number has no noughts ahead")
    return int(word)
