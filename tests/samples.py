"""Books and values that the tests share."""

from fractions import Fraction
from random import Random
from unittest import TestCase

from cornerdrifts.bench import Bench
from cornerdrifts.books import REGIONS, Book
from cornerdrifts.desk import Desk
from cornerdrifts.errors import BadPair, DriftError

# The book of the examples in section 4 of the document.
QUEUE_LINES = [
    "book",
    "inside", "step 1 0 1/4", "step -1 1 1/2", "step 0 -1 1/4",
    "first", "step 1 0 1/2", "step -1 1 1/2",
    "second", "step 1 0 1/3", "step 0 -1 2/3",
    "none", "step 1 0 1/2", "step 0 0 1/2",
]
QUEUE_TEXT = "\n".join(QUEUE_LINES)


def queue():
    return Book(QUEUE_TEXT)


def deep(depth):
    """A tuple nested so many deep."""
    value = 1
    for _ in range(depth):
        value = (value,)
    return value


def any_values():
    """Values of any kind, made anew; none of them is a pair, a region, a share or an integer."""
    return [
        None, True, False, "", "1", "1/2", "Inside", "inside ", " inside", "inside\n", "book", "x", "border",
        [], [1, 1], [1, 2], ["inside"], {}, {"inside": 1}, {1: 2}, (), (1,), ("inside",), (1, 2, 3), (1, 1, 1),
        (None, None), ("1", "2"), ("1", 2), (1, "2"), ([1], [2]), ([1], 2), (1, [2]), ((1, 2), (1, 2)), ((1, 2), 3),
        (1, (2, 3)), (True, 1), (1, True), (True, True), (True, 2), (False, 1), (1, False), (None, 1), (1, None),
        (-1, True), ({}, 1), (1, {}), deep(30), (deep(29), 1), (1, deep(29)), queue(), (queue(), 1), (1, queue()),
        BadPair((1, 2)), DriftError(1), (DriftError(1), 2), Bench(QUEUE_TEXT), (Bench(QUEUE_TEXT), 1),
        Desk("bench\n" + QUEUE_TEXT), (1, Desk("bench\n" + QUEUE_TEXT)),
    ]


def any_but(*known):
    """Values of any kind but these; (True, 1) is not (1, 1)."""
    return [value for value in any_values() if repr(value) not in [repr(one) for one in known]]


def told(steps):
    """The lines of a region's steps, which are told as (i, j, top, bottom)."""
    lines = []
    for i, j, top, bottom in steps:
        chance = Fraction(top, bottom)
        lines.append(f"step {i} {j} {chance}")
    return lines


def book(inside, first, second, none=((0, 0, 1, 1),)):
    lines = ["book"]
    for region, steps in zip(REGIONS, (inside, first, second, none)):
        lines += [region] + told(steps)
    return Book("\n".join(lines))


def allowed_steps(region):
    low_i = 0 if region in ("second", "none") else -1
    low_j = 0 if region in ("first", "none") else -1
    return [(i, j) for i in range(low_i, 4) for j in range(low_j, 4)]


def full_region(region, many, without=()):
    """The lines of a region with so many steps, all of the same chance."""
    pairs = [pair for pair in allowed_steps(region) if pair not in without]
    return [region] + told([(i, j, 1, many) for i, j in pairs[:many]])


def random_book(random):
    regions = []
    for region in REGIONS:
        pairs = allowed_steps(region)
        # Near pairs are likelier, so that all signs of drifts and turns come up.
        near = [pair for pair in pairs if max(pair) <= 1]
        source = near if random.random() < 0.7 else pairs
        pairs = random.sample(source, random.randint(1, min(len(source), 12)))
        weights = [random.randint(1, 6) for _ in pairs]
        regions.append([(i, j, weight, sum(weights)) for (i, j), weight in zip(pairs, weights)])
    return book(*regions)


def random_books(seed, many):
    random = Random(seed)
    return [random_book(random) for _ in range(many)]


def pair_of(number):
    """A Fraction as the package tells it."""
    return (number.numerator, number.denominator)


def chances(steps):
    """A region's steps as a dict of Fractions."""
    return {(i, j): Fraction(*chance) for i, j, chance in steps}


def region_of(one, region):
    return {"inside": one.inside, "first": one.first, "second": one.second, "none": one.none}[region]


class Case(TestCase):
    """Tests that also look at kinds of values, and at what an error keeps."""

    def same(self, found, wanted):
        """Equal, and of the same kinds throughout: True is not 1, a list is no tuple."""
        self.assertEqual(found, wanted)
        self.assertEqual(repr(found), repr(wanted))

    def raises(self, error, call, /, *args, **named):
        """The value of the error, of just this class, that the call raises."""
        with self.assertRaises(DriftError) as caught:
            call(*args, **named)
        self.assertIs(type(caught.exception), error)
        return caught.exception.value

    def refuses(self, error, value, call, /, *args, **named):
        """The call raises this error with a value of this kind."""
        self.same(self.raises(error, call, *args, **named), value)

    def refuses_it(self, error, value, call, /, *args, **named):
        """The call raises this error with the very value."""
        self.assertIs(self.raises(error, call, *args, **named), value)


# Steps of up to 3 whose drift is (0, 0); they can stand inside beside others.
LONG_STEPS = [(3, -1, 1, 4), (-1, 3, 1, 4), (-1, -1, 1, 2)]


def steered(drift, low_i=-1, low_j=-1, long=False):
    """Steps with this drift, its numbers Fractions up to 1/8 (and not below what a side allows)."""
    across, along = drift
    weights = {}
    for i, j, size in ((1, 0, across), (0, 1, along)):
        low = low_i if i else low_j
        if low == 0:
            weights[i, j] = size
        else:
            weights[i, j], weights[-i, -j] = Fraction(1, 8) + size / 2, Fraction(1, 8) - size / 2
    rest = 1 - sum(weights.values())
    if long:
        for i, j, top, bottom in LONG_STEPS:
            weights[i, j] = weights.get((i, j), 0) + Fraction(top, bottom) * rest / 2
        rest = rest / 2
    weights[0, 0] = rest
    return [(i, j, *pair_of(weight)) for (i, j), weight in weights.items() if weight]


def steered_book(inside, first, second, long=False):
    """A book whose drifts are these, told as pairs of Fractions."""
    return book(steered(inside, long=long), steered(first, low_j=0), steered(second, low_i=0))
