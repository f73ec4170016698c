"""A desk that keeps drawings by names and is told rows of text."""

from loopcube.counts import counts_of
from loopcube.drawings import closing, mirrored, turned_about
from loopcube.errors import NoPlace, NoText
from loopcube.faces import SIDES
from loopcube.groups import groups_of
from loopcube.likeness import first_unlike
from loopcube.moves import WAYS, curled, poked, slid, uncurled, unpoked
from loopcube.texts import SIGNS, read_drawing, read_number, show_counts, show_drawing, show_groups, written_place

LETTERS = "abcdefghijklmnopqrstuvwxyz"
MOST_LETTERS = 8

FORMS = {
    "keep": ("name", "drawing"),
    "show": ("name",),
    "copy": ("name", "name"),
    "curl": ("name", "number", "sign", "way"),
    "uncurl": ("name", "number"),
    "poke": ("name", "number", "side", "number", "side"),
    "unpoke": ("name", "number", "number"),
    "slide": ("name", "number", "side"),
    "mirror": ("name",),
    "turn": ("name",),
    "groups": ("name",),
    "counts": ("name",),
    "same": ("name", "name"),
}


class Desk:
    """Drawings by names."""

    def __init__(self):
        self.kept = {}

    def say(self, row):
        """The answer to a row; what is refused changes nothing."""
        deed, told = read_row(row)
        name = told[0]
        if deed == "keep":
            self.kept[name] = told[1]
        elif deed == "close":
            self.kept[name] = closing(told[1], told[2:])
        elif deed == "copy":
            self.kept[told[1]] = self.found(name)
        elif deed == "same":
            return sameness(self.found(name), self.found(told[1]))
        elif deed == "show":
            return show_drawing(self.found(name))
        elif deed == "groups":
            return show_groups(groups_of(self.found(name)))
        elif deed == "counts":
            return show_counts(counts_of(self.found(name)))
        else:
            self.kept[name] = changed(self.found(name), deed, told[1:])
        return "ok"

    def found(self, name):
        """The drawing that is kept by a name."""
        if name not in self.kept:
            raise NoPlace("no drawing is kept by this name")
        return self.kept[name]


def sameness(one, other):
    """Whether the groups of both are alike, or where they are not."""
    place = first_unlike(groups_of(one), groups_of(other))
    if place is None:
        return "alike"
    return "unlike " + written_place(place)


def changed(drawing, deed, told):
    """The drawing behind a move, or mirrored or turned about."""
    match [deed, *told]:
        case ["curl", e, sign, way]:
            return curled(drawing, e, sign, way)
        case ["uncurl", k]:
            return uncurled(drawing, k)
        case ["poke", e, side, f, other_side]:
            return poked(drawing, e, side, f, other_side)
        case ["unpoke", j, k]:
            return unpoked(drawing, j, k)
        case ["slide", e, side]:
            return slid(drawing, e, side)
        case ["mirror"]:
            return mirrored(drawing)
    return turned_about(drawing)


def read_row(row):
    """The first word of a row, and what is told behind it; any other thing is refused."""
    if not isinstance(row, str):
        raise NoText("only a text is read")
    words = row.split(" ")
    kinds = FORMS.get(words[0])
    if words[0] == "keep":
        # The text of a drawing has blanks of its own.
        words = row.split(" ", 2)
    elif words[0] == "close":
        # Strands stand behind the name in any case, letters need not.
        kinds = ("name", "number") + ("number",) * (len(words) - 3)
    if kinds is None or len(words) != len(kinds) + 1:
        raise NoText("this is no row")
    return (words[0], [read_thing(kind, word) for kind, word in zip(kinds, words[1:])])


def read_thing(kind, word):
    """What a word of a row tells."""
    if kind == "drawing":
        return read_drawing(word)
    if kind == "number":
        return read_number(word)
    if kind == "sign" and word in SIGNS:
        return SIGNS[word]
    if kind == "way" and word in WAYS:
        return word
    if kind == "side" and word in SIDES:
        return word
    if kind == "name" and is_name(word):
        return word
    raise NoText("this is no " + kind)


def is_name(word):
    """Whether a word can be the name of a drawing."""
    return 1 <= len(word) <= MOST_LETTERS and all(letter in LETTERS for letter in word)
