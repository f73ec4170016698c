"""The interface: each name stands in its module, with its arguments by their places."""

import importlib
import inspect
import unittest

INTERFACE = {
    "loopcube.tables": {
        "is_table": ["thing"], "unit": ["many"], "nought": ["high", "wide"], "turned": ["one"],
        "plus": ["one", "other"], "many_times": ["number", "one"], "product": ["one", "other"],
    },
    "loopcube.plainform": {"plain_form": ["one"], "divisors": ["one"]},
    "loopcube.drawings": {
        "is_drawing": ["thing"], "names_of": ["drawing"], "cords": ["drawing"],
        "face_at": ["drawing", "name", "side"], "signs": ["drawing"], "mirrored": ["drawing"],
        "turned_about": ["drawing"], "named_anew": ["drawing", "by"], "beside": ["one", "other"],
        "knit": ["one", "name", "other", "other_name"], "closing": ["strands", "letters"],
    },
    "loopcube.moves": {
        "curled": ["drawing", "e", "sign", "way"], "uncurled": ["drawing", "k"],
        "poked": ["drawing", "e", "side", "f", "other_side"], "unpoked": ["drawing", "j", "k"],
        "slid": ["drawing", "e", "side"],
    },
    "loopcube.openings": {"loops": ["drawing", "opening"], "turning": ["drawing", "opening", "k"]},
    "loopcube.words": {
        "height_of": ["drawing", "word"], "weight_of": ["drawing", "word"],
        "words_at": ["drawing", "height", "weight"], "places": ["drawing"],
    },
    "loopcube.cube": {"leads": ["drawing", "word"], "table_at": ["drawing", "height", "weight"]},
    "loopcube.groups": {
        "row_groups": ["sizes", "tables"], "groups_of": ["drawing"], "gathered": ["numbers"],
        "products": ["one", "other"],
    },
    "loopcube.counts": {
        "counts_of": ["drawing"], "plain_counts": ["drawing"], "times_counts": ["one", "other"],
    },
    "loopcube.splits": {"split": ["sizes", "tables"]},
    "loopcube.likeness": {"likeness": ["one", "other"]},
    "loopcube.looker": {"stands": ["one", "other", "paper"]},
    "loopcube.leftout": {
        "words_without": ["drawing", "name", "height", "weight"],
        "table_without": ["drawing", "name", "height", "weight"], "groups_without": ["drawing", "name"],
    },
    "loopcube.texts": {
        "show_drawing": ["drawing"], "show_groups": ["groups"], "show_counts": ["counts"], "read_drawing": ["text"],
    },
}


class Interface(unittest.TestCase):
    def test_functions(self):
        for module_name, functions in INTERFACE.items():
            module = importlib.import_module(module_name)
            for name, arguments in functions.items():
                function = getattr(module, name)
                self.assertEqual(function.__module__, module_name)
                self.assertEqual(list(inspect.signature(function).parameters), arguments, name)

    def test_desk(self):
        desk = importlib.import_module("loopcube.desk").Desk
        self.assertEqual(desk.__module__, "loopcube.desk")
        self.assertEqual(list(inspect.signature(desk).parameters), [])
        # The method stands in the class itself.
        self.assertEqual(list(inspect.signature(vars(desk)["say"]).parameters), ["self", "row"])


if __name__ == "__main__":
    unittest.main()
