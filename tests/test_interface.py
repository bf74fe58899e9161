"""Names, places and arguments, as the interface in the document lists them."""

import inspect

from cornerdrifts import bench, books, changes, desk, drifts, home, journals, makes, products, sides, ticks, ways
from tests.samples import QUEUE_TEXT, Case, queue
from tests.test_ways import CALM

FUNCTIONS = {
    books: {
        "region_at": ["pair"], "steps_of": ["book", "region"], "chance_of": ["book", "region", "i", "j"],
        "exchanged": ["book"], "slowed": ["book", "share"], "mixed": ["one", "other", "share"],
    },
    drifts: {
        "drift": ["book", "region"], "turns": ["book"], "border": ["book"], "asked": ["book"],
        "does_come_home": ["book"],
    },
    home: {
        "home": ["book"], "shows_home": ["book", "value"], "worth": ["book", "paper", "pair"],
        "mean_change": ["book", "paper", "pair"],
    },
    sides: {
        "share_beside": ["book", "side"], "pace": ["book", "side"], "shares": ["book", "side", "many"],
        "mean_beside": ["book", "side"], "goes": ["book"],
    },
    ways: {
        "legs": ["book", "place"], "time_home": ["book", "place"], "at_time": ["book", "place", "time"],
    },
    ticks: {
        "after": ["book", "pair", "ticks"], "means_after": ["book", "pair", "ticks"],
        "home_by": ["book", "pair", "corner", "ticks"], "lasting": ["book", "pair", "corner", "ticks"],
        "between": ["book", "pair", "paper", "ticks"],
    },
    changes: {
        "moved": ["book", "region", "step", "other", "amount"],
        "home_amounts": ["book", "region", "step", "other"],
    },
    makes: {
        "one_hand": ["a", "b", "m", "e", "g", "share"], "load_of_hand": ["a", "b", "m", "e", "g"],
        "two_hands": ["a", "b", "m", "k", "aid"], "handed_on": ["a", "b", "m", "k", "p", "q"],
        "loads": ["a", "b", "m", "k", "p", "q"],
    },
    products: {
        "whole": ["table"], "balance": ["book", "table", "pair"], "is_steady": ["book", "table"],
        "product_of_loads": ["a", "b", "m", "k", "p", "q"],
    },
    journals: {"journal": ["bench"], "read_journal": ["text"]},
}
METHODS = {
    bench.Bench: {
        "__init__": ["text"], "put": ["region", "step", "other", "amount"], "turn": [], "slow": ["share"],
        "mix": ["text", "share"], "undo": [], "redo": [], "trial": [], "keep": [], "tried": ["look", "keep"],
        "copy": [], "__eq__": ["other"],
    },
    desk.Desk: {"__init__": ["text"], "say": ["line"]},
    books.Book: {"__init__": ["text"], "__eq__": ["other"], "__len__": []},
}


def calls():
    """A call of each function of the interface: the function, and its arguments."""
    one, other = queue(), books.exchanged(queue())
    place, paper = ((2, 1), (3, 1)), home.home(CALM)[1]
    hand, hands = ((1, 6), (1, 5), (19, 30), (1, 2), (1, 3)), ((1, 10), (3, 20), (7, 20), (2, 5), (1, 2), (1, 4))
    table = products.product_of_loads(*hands)
    return [
        (books.region_at, (3, 0)), (books.steps_of, one, "first"), (books.chance_of, one, "inside", -1, 1),
        (books.exchanged, one), (books.slowed, one, (1, 3)), (books.mixed, one, other, (1, 3)),
        (drifts.drift, one, "first"), (drifts.turns, one), (drifts.border, one), (drifts.asked, CALM),
        (drifts.does_come_home, CALM), (home.home, CALM), (home.shows_home, CALM, ("home", paper)),
        (home.worth, CALM, paper, (3, 4)), (home.mean_change, CALM, paper, (3, 4)),
        (sides.share_beside, CALM, "second"), (sides.pace, CALM, "first"), (sides.shares, CALM, "second", 3),
        (sides.mean_beside, CALM, "first"), (sides.goes, CALM),
        (ways.legs, CALM, place), (ways.time_home, CALM, place), (ways.at_time, CALM, place, (5, 1)),
        (ticks.after, one, (2, 1), 3), (ticks.means_after, one, (2, 1), 3), (ticks.home_by, one, (2, 1), 1, 3),
        (ticks.lasting, one, (2, 1), 1, 3), (ticks.between, CALM, (60, 59), paper, 2),
        (changes.moved, one, "inside", (1, 0), (0, 1), (1, 5)), (changes.home_amounts, one, "inside", (1, 0), (0, 1)),
        (makes.one_hand, *hand, (3, 4)), (makes.load_of_hand, *hand), (makes.two_hands, *hands[:5]),
        (makes.handed_on, *hands), (makes.loads, *hands),
        (products.whole, table), (products.balance, one, table, (3, 1)), (products.is_steady, one, table),
        (products.product_of_loads, *hands),
        (journals.journal, bench.Bench(QUEUE_TEXT)), (journals.read_journal, "bench\n" + QUEUE_TEXT),
    ]


class Interface(Case):
    def test_functions(self):
        for module, names in FUNCTIONS.items():
            for name, arguments in names.items():
                with self.subTest(name):
                    function = getattr(module, name)
                    self.assertTrue(inspect.isfunction(function))
                    self.assertEqual(function.__module__, module.__name__)
                    parameters = inspect.signature(function).parameters.values()
                    self.assertEqual([parameter.name for parameter in parameters], arguments)
                    for parameter in parameters:
                        self.assertIs(parameter.kind, inspect.Parameter.POSITIONAL_OR_KEYWORD)
                        self.assertIs(parameter.default, inspect.Parameter.empty)

    def test_book(self):
        self.assertEqual(books.Book.__module__, "cornerdrifts.books")
        self.assertEqual(list(inspect.signature(books.Book).parameters), ["text"])
        for method in ("__init__", "__eq__", "__len__"):
            self.assertIn(method, vars(books.Book))
        self.assertLessEqual({"text", "inside", "first", "second", "none"}, set(vars(queue())))

    def test_methods(self):
        for kind, names in METHODS.items():
            for name, arguments in names.items():
                with self.subTest(kind=kind, name=name):
                    # In the class itself, not in one below it.
                    parameters = list(inspect.signature(vars(kind)[name]).parameters.values())[1:]
                    self.assertEqual([parameter.name for parameter in parameters], arguments)
        keep = inspect.signature(bench.Bench.tried).parameters["keep"]
        self.assertIs(keep.kind, inspect.Parameter.KEYWORD_ONLY)
        self.assertIs(keep.default, False)

    def test_benches_and_desks(self):
        self.assertEqual((bench.Bench.__module__, desk.Desk.__module__), ("cornerdrifts.bench", "cornerdrifts.desk"))
        self.assertLessEqual({"book", "done", "told"}, set(vars(bench.Bench(QUEUE_TEXT))))
        self.assertLessEqual({"bench"}, set(vars(desk.Desk("bench\n" + QUEUE_TEXT))))

    def test_calls_by_position_and_by_name(self):
        known = {(module.__name__, name) for module, names in FUNCTIONS.items() for name in names}
        self.assertEqual({(function.__module__, function.__name__) for function, *_ in calls()}, known)
        for function, *values in calls():
            with self.subTest(function.__name__):
                found = function(*values)
                names = list(inspect.signature(function).parameters)
                self.assertEqual(function(**dict(reversed(list(zip(names, values))))), found)
                # The first ones by position, the others by name.
                for many in range(1, len(values)):
                    self.assertEqual(function(*values[:many], **dict(zip(names[many:], values[many:]))), found)
