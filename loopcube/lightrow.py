"""A row of tables made light: pairs of places of which one leads to the other by 1 or -1 are taken out.

What is taken out leaves the groups as they are. The tables of a drawing have few numbers other than 0,
nearly all of them 1 or -1: so columns are dicts of these, and hardly anything is left.
"""

from loopcube.sums import add_to, summed


class LightRow:
    """Columns, and a record of what each place that is left, and each that was taken out, stands for.

    Each attribute is a list with an item for each size:
    columns: for each place that is left a dict from the places of the next size to the numbers there;
    met: for each place that is left the places of the size ahead that lead to it, as keys;
    base: for each place that is left its column of the base, a dict from first places to numbers;
    back: for each place that is left its row of the table that undoes the base, likewise;
    pairs: of each pair taken out that is led to at this size (base, back, led base, led back).
    """

    def __init__(self, columns):
        self.columns = [{place: dict(column) for place, column in enumerate(each)} for each in columns]
        self.met = met_places(self.columns)
        self.base = [{place: {place: 1} for place in each} for each in self.columns]
        self.back = [{place: {place: 1} for place in each} for each in self.columns]
        # One more item, so that the pairs that lead on from a size stand at the next one in any case.
        self.pairs = [[] for each in range(len(columns) + 1)]

    def lighten(self):
        """At each place one look is taken for a pair that can be taken out."""
        for i in range(len(self.columns)):
            for a in list(self.columns[i]):
                units = [b for b, number in self.columns[i][a].items() if abs(number) == 1]
                if units:
                    # The fewer lead there, the fewer columns are changed.
                    self.take_out(i, a, min(units, key=lambda b: len(self.met[i + 1][b])))

    def take_out(self, i, a, b):
        """The place a of a size, and b of the next one, to which a leads by 1 or -1, are taken out."""
        self.note_pair(i, a, b)
        unit = self.columns[i][a][b]
        for onward, number in self.columns[i][a].items():
            if onward != b:
                add_to(self.back[i + 1][onward], -unit * number, self.back[i + 1][b])
        for place in list(self.met[i + 1][b]):
            if place != a:
                self.add_column(i, place, a, -unit * self.columns[i][place][b])
        self.drop(i, a)
        self.drop(i + 1, b)

    def note_pair(self, i, a, b):
        """What a and b stand for is put down: the column that leads, and all of what it leads to."""
        column = self.columns[i][a]
        unit = column[b]
        led_base = summed([(number, self.base[i + 1][onward]) for onward, number in column.items()])
        back = summed([(unit * self.columns[i][place][b], self.back[i][place]) for place in self.met[i + 1][b]])
        led_back = summed([(unit, self.back[i + 1][b])])
        self.pairs[i + 1].append((self.base[i][a], back, led_base, led_back))

    def add_column(self, i, place, a, times):
        """The column of a place gets that of a so many times."""
        add_to(self.base[i][place], times, self.base[i][a])
        column = self.columns[i][a]
        add_to(self.columns[i][place], times, column)
        for onward in column:
            if onward in self.columns[i][place]:
                self.met[i + 1][onward][place] = True
            else:
                self.met[i + 1][onward].pop(place, None)

    def drop(self, i, place):
        """A place goes, with all that leads there and from there."""
        column, met = self.columns[i][place], self.met[i][place]
        for onward in column:
            del self.met[i + 1][onward][place]
        for before in met:
            del self.columns[i - 1][before][place]
        del self.columns[i][place], self.met[i][place], self.base[i][place], self.back[i][place]


def met_places(columns):
    """For each size and place the places of the size ahead that lead there, as keys."""
    met = [{place: {} for place in each} for each in columns]
    for i, each in enumerate(columns):
        for place, column in each.items():
            for onward in column:
                met[i + 1][onward][place] = True
    return met
