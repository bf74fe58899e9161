"""Names, places and arguments, as the interface in the document lists them."""

import inspect

from cornerdrifts import books, changes, drifts, home, makes, sides, ticks, ways
from tests.samples import Case, queue

FUNCTIONS = {
    books: {
        "region_at": ["pair"], "steps_of": ["book", "region"], "chance_of": ["book", "region", "i", "j"],
        "exchanged": ["book"], "slowed": ["book", "share"], "mixed": ["one", "other", "share"],
    },
    drifts: {
        "drift": ["book", "region"], "turns": ["book"], "border": ["book"], "asked": ["book"],
        "does_come_home": ["book"],
    },
    home: {
        "home": ["book"], "shows_home": ["book", "value"], "worth": ["book", "paper", "pair"],
        "mean_change": ["book", "paper", "pair"],
    },
    sides: {
        "share_beside": ["book", "side"], "pace": ["book", "side"], "shares": ["book", "side", "many"],
        "mean_beside": ["book", "side"], "goes": ["book"],
    },
    ways: {
        "legs": ["book", "place"], "time_home": ["book", "place"], "at_time": ["book", "place", "time"],
    },
    ticks: {
        "after": ["book", "pair", "ticks"], "means_after": ["book", "pair", "ticks"],
        "home_by": ["book", "pair", "corner", "ticks"], "lasting": ["book", "pair", "corner", "ticks"],
        "between": ["book", "pair", "paper", "ticks"],
    },
    changes: {
        "moved": ["book", "region", "step", "other", "amount"],
        "home_amounts": ["book", "region", "step", "other"],
    },
    makes: {
        "one_hand": ["a", "b", "m", "e", "g", "share"], "load_of_hand": ["a", "b", "m", "e", "g"],
        "two_hands": ["a", "b", "m", "k", "aid"], "handed_on": ["a", "b", "m", "k", "p", "q"],
        "loads": ["a", "b", "m", "k", "p", "q"],
    },
}


class Interface(Case):
    def test_functions(self):
        for module, names in FUNCTIONS.items():
            for name, arguments in names.items():
                with self.subTest(name):
                    function = getattr(module, name)
                    self.assertTrue(inspect.isfunction(function))
                    self.assertEqual(function.__module__, module.__name__)
                    parameters = inspect.signature(function).parameters.values()
                    self.assertEqual([parameter.name for parameter in parameters], arguments)
                    for parameter in parameters:
                        self.assertIs(parameter.kind, inspect.Parameter.POSITIONAL_OR_KEYWORD)
                        self.assertIs(parameter.default, inspect.Parameter.empty)

    def test_book(self):
        self.assertEqual(books.Book.__module__, "cornerdrifts.books")
        self.assertEqual(list(inspect.signature(books.Book).parameters), ["text"])
        for method in ("__init__", "__eq__", "__len__"):
            self.assertIn(method, vars(books.Book))
        self.assertLessEqual({"text", "inside", "first", "second", "none"}, set(vars(queue())))
