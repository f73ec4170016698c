"""Words of a drawing, (opening, marks), and the heights and weights at which they stand."""

from loopcube.drawings import signs
from loopcube.errors import TooMany
from loopcube.openings import loops

MOST_PARTS = 6


def height_of(drawing, word):
    """The 1s of the word's opening, less the crossings with the sign -1."""
    return sum(word[0]) - signs(drawing)[1]


def weight_of(drawing, word):
    """The plain loops less the marked ones, moved by the opening's 1s and the crossings' signs."""
    opening, marks = word
    above, below = signs(drawing)
    return marks.count(0) - marks.count(1) + sum(opening) + above - 2 * below


def words_at(drawing, height, weight):
    """The words of a height and a weight, in order."""
    refuse_too_many(drawing)
    told = []
    for opening in bits_with(len(drawing[1]), height + signs(drawing)[1]):
        many = len(loops(drawing, opening))
        for marked in range(many + 1):
            # Words of one opening with as many marks have one weight, so a look at one of them is enough.
            if weight_of(drawing, (opening, some_marks(many, marked))) == weight:
                told.extend([(opening, marks) for marks in bits_with(many, marked)])
    return told


def places(drawing):
    """For each weight that some word has the least and the greatest height at it."""
    return spans_of(list(all_words(drawing)))


def spans_of(found):
    """For each weight of a list of places (height, weight) the least and the greatest height at it."""
    heights = {}
    for height, weight in found:
        heights.setdefault(weight, []).append(height)
    return {weight: (min(heights[weight]), max(heights[weight])) for weight in sorted(heights)}


def all_words(drawing):
    """The words by (height, weight), each list in order."""
    refuse_too_many(drawing)
    told = {}
    for opening in all_openings(drawing):
        many = len(loops(drawing, opening))
        for marked in range(many + 1):
            words = [(opening, marks) for marks in bits_with(many, marked)]
            # As in words_at, one word tells the place of all; openings of one height come in order.
            place = (height_of(drawing, words[0]), weight_of(drawing, words[0]))
            told.setdefault(place, []).extend(words)
    return told


def all_openings(drawing):
    """The openings of a drawing, those with fewer 1s first."""
    many = len(drawing[1])
    return [opening for ones in range(many + 1) for opening in bits_with(many, ones)]


def bits_with(many, ones):
    """The tuples of so many 0s and 1s, of which so many are 1s, in order."""
    told = [()]
    for behind in range(many - 1, -1, -1):
        told = [
            bits + (bit,)
            for bits in told
            for bit in (0, 1)
            if 0 <= ones - sum(bits) - bit <= behind
        ]
    return told if 0 <= ones <= many else []


def some_marks(many, marked):
    """Marks of so many loops, of which so many are marked."""
    return (0,) * (many - marked) + (1,) * marked


def refuse_too_many(drawing):
    """Words are told of few crossings and rings alone, as there are so many of them."""
    refuse_more_parts(drawing, MOST_PARTS)


def refuse_more_parts(drawing, most):
    """A drawing with more crossings and rings together is refused."""
    rings, crossings = drawing
    if len(rings) + len(crossings) > most:
        raise TooMany("more crossings and rings than are reckoned with")
