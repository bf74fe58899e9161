"""Chances that are moved, and the amounts with which a book comes home."""

from fractions import Fraction
from random import Random

from cornerdrifts.books import REGIONS, Book, chance_of
from cornerdrifts.changes import home_amounts, moved
from cornerdrifts.drifts import border, does_come_home, drift, turns
from cornerdrifts.errors import BadAmount, BadStep, Full, NoRegion
from tests.checks import comes_home, is_plain
from tests.samples import Case, allowed_steps, any_but, any_values, book, chances, full_region, pair_of, queue
from tests.samples import random_books, region_of

ZERO, HALF, ONE = (0, 1), (1, 2), (1, 1)
# The book of the examples in section 10 of the document.
ROWS = ["book", "inside", "step 1 0 1/8", "step 0 1 1/8", "step -1 0 3/8", "step 0 -1 3/8", "first", "step 1 0 1/8"]
MORE = ["step 0 1 1/8", "step -1 0 3/4", "second", "step 1 0 1/8", "step 0 1 1/8", "step 0 -1 3/4"]
PAIR = Book("\n".join(ROWS + MORE + ["none", "step 1 0 1/8", "step 0 1 1/8", "step 0 0 3/4"]))
BAD_REGIONS = ["Inside", "book", "inside ", "x", 0, 1, REGIONS, ["inside"]]
BAD_STEPS = [
    [0, -1], [-1, 0], (0, -1, (3, 8)), (0, -1, 3, 8), (0,), (-1,), ((-1, 0),), "0 -1", "-1 0", (-2, 0), (0, -2), (4, 0),
    (0, 4), (10 ** 11, 0), (False, -1), (-1, False), ("-1", 0), (None, 0), 0, -1,
]
BAD_AMOUNTS = [
    (-1, 8), (-1, 10 ** 12), (1, 1), (2, 1), (4, 8), (2, 8), (0, 2), (1, 0), (1, -8), (True, 8), (True, 3), (1, True),
    [1, 8], (1,), (1, 8, 1), (1, (1, 8)), 0, 1, True, False, None, "1/8", "0", ((1, 8),), (0, 0), (-3, 8),
]


def steps_of_region(one, region):
    return [(i, j) for i, j, _ in region_of(one, region)]


def moves(one, random, many):
    """Regions of a book, each with a step and another one that may be moved to it."""
    found = []
    for _ in range(many):
        region = random.choice(REGIONS)
        step = random.choice(steps_of_region(one, region))
        other = random.choice([pair for pair in allowed_steps(region) if pair != step])
        if len(region_of(one, region)) < 12 or other in steps_of_region(one, region):
            found.append((region, step, other))
    return found


def with_twelve(region, without=()):
    """A book of which one region has twelve steps of 1/12 each."""
    lines = ["book"]
    for name in REGIONS:
        lines += full_region(region, 12, without) if name == region else [name, "step 0 0 1"]
    return Book("\n".join(lines))


class Moved(Case):
    def test_a_part(self):
        one = moved(PAIR, "inside", (-1, 0), (0, 1), (1, 8))
        self.same(one.inside, ((1, 0, (1, 8)), (0, 1, (1, 4)), (-1, 0, (1, 4)), (0, -1, (3, 8))))
        self.same((one.first, one.second, one.none), (PAIR.first, PAIR.second, PAIR.none))
        self.assertIs(type(one), Book)

    def test_to_a_step_that_does_not_stand(self):
        one = moved(PAIR, "first", (1, 0), (-1, 3), (1, 24))
        self.same(one.first, ((1, 0, (1, 12)), (0, 1, (1, 8)), (-1, 0, (3, 4)), (-1, 3, (1, 24))))

    def test_all_of_the_chance(self):
        one = moved(PAIR, "inside", (1, 0), (0, -1), (1, 8))
        self.same(one.inside, ((0, 1, (1, 8)), (-1, 0, (3, 8)), (0, -1, HALF)))
        one = moved(PAIR, "second", (0, 1), (3, 3), (1, 8))
        self.same(one.second, ((1, 0, (1, 8)), (0, -1, (3, 4)), (3, 3, (1, 8))))

    def test_the_only_step(self):
        one = book([(1, 0, 1, 1)], [(1, 0, 1, 1)], [(0, 1, 1, 1)])
        self.same(moved(one, "inside", (1, 0), (-1, -1), ONE).inside, ((-1, -1, ONE),))
        self.same(moved(one, "none", (0, 0), (3, 3), (2, 3)).none, ((0, 0, (1, 3)), (3, 3, (2, 3))))

    def test_no_amount(self):
        for one in [PAIR, queue()] + random_books(101, 10):
            for region, step, other in moves(one, Random(102), 6):
                self.assertEqual(moved(one, region, step, other, ZERO), one)
                self.same(moved(one, region, step, other, ZERO).text, one.text)

    def test_by_name(self):
        one = moved(amount=(1, 4), other=(1, 0), step=(0, 0), region="none", book=PAIR)
        self.same(one.text.split("\n")[14:], ["none", "step 1 0 3/8", "step 0 1 1/8", "step 0 0 1/2"])

    def test_all_books(self):
        random = Random(103)
        for one in random_books(104, 40):
            for region, step, other in moves(one, random, 5):
                whole = Fraction(*chance_of(one, region, *step))
                for part in (Fraction(1, 7), Fraction(1, 2), Fraction(1)):
                    amount = whole * part
                    found = moved(one, region, step, other, pair_of(amount))
                    known = chances(region_of(one, region))
                    wanted = {pair: chance for pair, chance in known.items() if pair != step or part < 1}
                    if part < 1:
                        wanted[step] -= amount
                    wanted[other] = wanted.get(other, 0) + amount
                    self.assertEqual(list(chances(region_of(found, region)).items()), list(wanted.items()))
                    for name in REGIONS:
                        if name != region:
                            self.same(region_of(found, name), region_of(one, name))

    def test_moved_and_back(self):
        random = Random(105)
        for one in random_books(106, 40):
            for region, step, other in moves(one, random, 4):
                whole = Fraction(*chance_of(one, region, *step))
                for part in (Fraction(2, 9), Fraction(1)):
                    amount = pair_of(whole * part)
                    back = moved(moved(one, region, step, other, amount), region, other, step, amount)
                    self.assertEqual(chances(region_of(back, region)), chances(region_of(one, region)))

    def test_drifts_and_turns_go_in_a_straight_line(self):
        random = Random(107)
        for one in random_books(108, 25):
            for region, step, other in moves(one, random, 3):
                whole = Fraction(*chance_of(one, region, *step))
                books = [moved(one, region, step, other, pair_of(whole * at / 4)) for at in range(5)]
                for numbers in (
                    [drift(each, region) for each in books], [turns(each) for each in books],
                ):
                    for at in (0, 1):
                        line = [Fraction(*pair[at]) for pair in numbers]
                        self.assertEqual({after - ahead for ahead, after in zip(line, line[1:])}, {line[1] - line[0]})


class TwelveSteps(Case):
    def test_the_13th_step(self):
        for region in REGIONS:
            # The standing step is one of those that lack.
            full = with_twelve(region, [(0, 0)])
            step = steps_of_region(full, region)[3]
            for amount in ((1, 24), (1, 13), (1, 10 ** 11)):
                self.refuses(Full, region, moved, full, region, step, (0, 0), amount)
            self.refuses(Full, region, moved, amount=(1, 24), other=(0, 0), step=step, region=region, book=full)

    def test_a_step_that_goes_makes_place(self):
        for region in REGIONS:
            full = with_twelve(region, [(0, 0)])
            steps = steps_of_region(full, region)
            found = moved(full, region, steps[3], (0, 0), (1, 12))
            self.same(steps_of_region(found, region), steps[:3] + steps[4:] + [(0, 0)])
            self.assertEqual(moved(full, region, steps[3], (0, 0), ZERO), full)

    def test_a_step_that_stands(self):
        for region in REGIONS:
            full = with_twelve(region)
            steps = steps_of_region(full, region)
            found = moved(full, region, steps[0], steps[11], (1, 24))
            self.same(chance_of(found, region, *steps[11]), (1, 8))
            self.assertEqual(len(found), 15)

    def test_eleven_steps(self):
        full = with_twelve("inside", [(0, 0)])
        steps = steps_of_region(full, "inside")
        eleven = moved(full, "inside", steps[0], steps[1], (1, 12))
        self.assertEqual(len(moved(eleven, "inside", steps[2], steps[0], (1, 24)).inside), 12)

    def test_full_comes_last(self):
        full = with_twelve("inside", [(0, 0)])
        step = steps_of_region(full, "inside")[0]
        for value in ((1, 11), (-1, 12), (2, 24), None, True):
            self.refuses_it(BadAmount, value, moved, full, "inside", step, (0, 0), value)
        self.refuses(BadStep, (9, 9), moved, full, "inside", step, (9, 9), (1, 24))
        self.refuses(BadStep, (0, 0), moved, full, "inside", (0, 0), (0, 0), (1, 24))

    def test_home_amounts(self):
        for region in REGIONS:
            full = with_twelve(region, [(0, 0)])
            step = steps_of_region(full, region)[3]
            self.refuses(Full, region, home_amounts, full, region, step, (0, 0))
            self.refuses(Full, region, home_amounts, other=(0, 0), step=step, region=region, book=full)
            self.refuses(BadStep, (9, 0), home_amounts, full, region, step, (9, 0))
            self.refuses(BadStep, (0, 0), home_amounts, full, region, (0, 0), step)
            # Among the twelve themselves nothing lacks.
            self.assertIs(type(home_amounts(full, region, step, steps_of_region(full, region)[0])), tuple)


def is_home(one):
    return is_plain(one) and comes_home(one)


def lies_in(found, amount):
    """Whether an amount lies in one of the stretches."""
    for low, high, low_in, high_in in found:
        if Fraction(*low) < amount < Fraction(*high):
            return True
        if amount == Fraction(*low) and low_in or amount == Fraction(*high) and high_in:
            return True
    return False


class HomeAmounts(Case):
    def right(self, one, region, step, other):
        """The stretches, if amounts within, at and between their ends are as the moved books are."""
        found = home_amounts(one, region, step, other)
        self.assertIs(type(found), tuple)
        whole = Fraction(*chance_of(one, region, *step))
        ends = {Fraction(0), whole}
        for stretch in found:
            self.assertEqual((type(stretch), len(stretch), type(stretch[2]), type(stretch[3])), (tuple, 4, bool, bool))
            for end in stretch[:2]:
                self.same(end, pair_of(Fraction(*end)))
            self.assertTrue(0 <= Fraction(*stretch[0]) < Fraction(*stretch[1]) <= whole)
            ends |= {Fraction(*stretch[0]), Fraction(*stretch[1])}
        for (_, high, _, high_in), (low, _, low_in, _) in zip(found, found[1:]):
            # Two that could be one are one.
            self.assertTrue(Fraction(*high) < Fraction(*low) or high == low and not high_in and not low_in)
        ends = sorted(ends)
        amounts = ends + [(low + high) / 2 for low, high in zip(ends, ends[1:])] + [whole * at / 12 for at in range(13)]
        near = min(high - low for low, high in zip(ends, ends[1:])) / 1000
        amounts += [end + by for end in ends for by in (-near, near) if 0 <= end + by <= whole]
        for amount in amounts:
            there = moved(one, region, step, other, pair_of(amount))
            self.assertEqual(lies_in(found, amount), is_home(there), (one.text, region, step, other, amount))
        return found

    def test_all_amounts(self):
        self.same(self.right(PAIR, "first", (-1, 0), (0, 1)), ((ZERO, (3, 4), True, True),))
        self.same(self.right(PAIR, "inside", (1, 0), (-1, 0)), ((ZERO, (1, 8), True, True),))

    def test_no_amount(self):
        away = book([(1, 0, 1, 4), (0, 1, 1, 4), (0, 0, 1, 2)], [(1, 1, 1, 1)], [(1, 1, 1, 1)])
        self.same(self.right(away, "inside", (0, 0), (1, 1)), ())
        self.same(self.right(away, "first", (1, 1), (-1, 3)), ())

    def test_one_stretch_with_an_open_end(self):
        self.same(self.right(PAIR, "second", (0, -1), (0, 1)), ((ZERO, (3, 8), True, False),))

    def test_one_stretch_that_begins_later(self):
        away = moved(PAIR, "second", (0, -1), (0, 1), (3, 4))
        self.same(self.right(away, "second", (0, 1), (0, -1)), (((3, 8), (7, 8), False, True),))

    def test_a_border_where_the_chance_begins_and_ends(self):
        # From the border the walk comes home with any amount, up to all of it.
        on_border = moved(PAIR, "second", (0, -1), (0, 1), (3, 8))
        self.assertEqual(border(on_border), "second turn")
        self.same(self.right(on_border, "second", (0, 1), (0, -1)), ((ZERO, HALF, False, True),))
        self.same(self.right(on_border, "second", (0, -1), (0, 1)), ())
        # Whoever moves all that comes to the second queue beside first reaches the border there.
        self.same(self.right(PAIR, "first", (0, 1), (0, 0)), ((ZERO, (1, 8), True, False),))

    def test_two_stretches_that_meet_at_a_border(self):
        self.same(
            self.right(PAIR, "inside", (-1, 0), (1, 0)), ((ZERO, (1, 8), True, False), ((1, 8), (3, 8), False, True)),
        )

    def test_two_stretches_that_do_not_meet(self):
        # From x falls and y grows, over both grow, to x grows and y falls.
        one = book([(-1, 1, 3, 4), (0, 1, 1, 4)], [(-1, 0, 7, 8), (0, 1, 1, 8)], [(0, -1, 7, 8), (1, 0, 1, 8)])
        self.same(
            self.right(one, "inside", (-1, 1), (1, -1)),
            ((ZERO, (17, 48), True, False), ((25, 48), (3, 4), False, True)),
        )

    def test_a_turn_that_is_0_where_nobody_asks(self):
        # The first turn is 0 with 1/4 moved, but y grows inside.
        one = book([(-1, 0, 1, 2), (0, 1, 1, 2)], [(0, 1, 1, 4), (-1, 0, 3, 4)], [(0, -1, 3, 4), (1, 0, 1, 4)])
        self.same(turns(moved(one, "first", (-1, 0), (1, 0), (1, 4))), (ZERO, (-1, 4)))
        self.same(self.right(one, "first", (-1, 0), (1, 0)), ((ZERO, (3, 4), True, True),))

    def test_a_chance_within_none(self):
        self.same(home_amounts(PAIR, "none", (0, 0), (3, 3)), ((ZERO, (3, 4), True, True),))
        away = moved(PAIR, "second", (0, -1), (0, 1), (3, 4))
        self.same(home_amounts(away, "none", (0, 0), (3, 3)), ())
        on_border = moved(PAIR, "second", (0, -1), (0, 1), (3, 8))
        self.same(home_amounts(on_border, "none", (1, 0), (0, 1)), ())

    def test_books_that_stay_on_a_border(self):
        one = book([(1, -1, 1, 2), (-1, -1, 1, 2)], [(-1, 1, 1, 1)], [(1, -1, 1, 1)])
        self.assertEqual(border(one), "x")
        self.same(self.right(one, "first", (-1, 1), (-1, 2)), ())
        self.same(self.right(one, "inside", (1, -1), (1, 0)), ())
        self.same(self.right(one, "inside", (1, -1), (0, -1)), ((ZERO, HALF, False, True),))
        # Nobody comes to the second queue beside first, whatever is moved.
        one = book([(-1, 0, 1, 2), (0, -1, 1, 2)], [(-1, 0, 1, 1)], [(1, -1, 1, 1)])
        self.same(self.right(one, "first", (-1, 0), (1, 0)), ())
        self.same(self.right(one, "inside", (-1, 0), (0, -1)), ())

    def test_all_books(self):
        random = Random(109)
        counts = {}
        for one in random_books(110, 160):
            for region, step, other in moves(one, random, 6):
                found = self.right(one, region, step, other)
                counts[len(found)] = counts.get(len(found), 0) + 1
        self.assertLessEqual({0, 1, 2}, set(counts))

    def test_by_name(self):
        found = home_amounts(other=(0, 1), step=(0, -1), region="second", book=PAIR)
        self.same(found, ((ZERO, (3, 8), True, False),))

    def test_chances_of_many_figures(self):
        one = PAIR
        for _ in range(12):
            one = moved(one, "inside", (-1, 0), (0, 0), (1, 999999999961))
            one = moved(one, "inside", (0, 0), (-1, 0), (1, 999999999989))
        self.right(one, "inside", (-1, 0), (1, 0))


class Wrong(Case):
    def test_regions(self):
        for value in any_values() + BAD_REGIONS:
            with self.subTest(value=value):
                self.refuses_it(NoRegion, value, moved, PAIR, value, (0, -1), (0, 1), (1, 8))
                self.refuses_it(NoRegion, value, home_amounts, PAIR, value, (0, -1), (0, 1))
                self.refuses_it(NoRegion, value, moved, PAIR, value, None, None, None)
                self.refuses_it(NoRegion, value, home_amounts, other=1, step=1, region=value, book=PAIR)

    def test_steps(self):
        for value in any_values() + BAD_STEPS + [(0, 0), (1, 1), (3, 3), (True, 0)]:
            with self.subTest(value=value):
                self.refuses_it(BadStep, value, moved, PAIR, "inside", value, (0, 1), (1, 8))
                self.refuses_it(BadStep, value, home_amounts, PAIR, "inside", value, (0, 1))
                # It stands first, also if the other one is the same, or all is wrong.
                self.refuses_it(BadStep, value, moved, PAIR, "inside", value, value, None)
                self.refuses_it(BadStep, value, home_amounts, other=[0], step=value, region="inside", book=PAIR)
        self.refuses(BadStep, (0, -1), moved, PAIR, "first", (0, -1), (0, 1), (1, 8))
        self.refuses(BadStep, (-1, 0), home_amounts, PAIR, "second", (-1, 0), (0, 1))

    def test_other_steps(self):
        for value in any_values() + BAD_STEPS:
            with self.subTest(value=value):
                self.refuses_it(BadStep, value, moved, PAIR, "inside", (0, -1), value, (1, 8))
                self.refuses_it(BadStep, value, moved, PAIR, "inside", (0, -1), value, None)
                self.refuses_it(BadStep, value, home_amounts, PAIR, "inside", (0, -1), value)
                self.refuses_it(BadStep, value, home_amounts, other=value, step=(0, -1), region="inside", book=PAIR)
        self.refuses(BadStep, (0, -1), moved, PAIR, "inside", (0, -1), (0, -1), ZERO)
        self.refuses(BadStep, (0, -1), home_amounts, PAIR, "inside", (0, -1), (0, -1))

    def test_other_steps_out_of_the_bounds_of_a_region(self):
        for region, step in (("inside", (1, 0)), ("first", (1, 0)), ("second", (1, 0)), ("none", (1, 0))):
            for i in range(-2, 5):
                for j in range(-2, 5):
                    if (i, j) not in allowed_steps(region) or (i, j) == step:
                        self.refuses(BadStep, (i, j), moved, PAIR, region, step, (i, j), (1, 8))
                        self.refuses(BadStep, (i, j), home_amounts, PAIR, region, step, (i, j))
                    else:
                        self.assertEqual(sum(chances(region_of(
                            moved(PAIR, region, step, (i, j), (1, 9)), region,
                        )).values()), 1)

    def test_amounts(self):
        # The step's chance is 3/8.
        for value in any_but(HALF) + BAD_AMOUNTS + [HALF, (375000000001, 10 ** 12)]:
            with self.subTest(value=value):
                self.refuses_it(BadAmount, value, moved, PAIR, "inside", (0, -1), (0, 1), value)
                self.refuses_it(BadAmount, value, moved, PAIR, "none", (1, 0), (3, 3), amount=value)

    def test_the_chance_itself_can_be_moved(self):
        self.same(moved(PAIR, "inside", (0, -1), (0, 1), (3, 8)).inside[1], (0, 1, HALF))
        self.same(moved(PAIR, "inside", (0, -1), (0, 1), (374999999999, 10 ** 12)).inside[3], (0, -1, (1, 10 ** 12)))


class Unchanged(Case):
    def test_equal_calls(self):
        text = PAIR.text
        for region, step, other in (("inside", (-1, 0), (1, 0)), ("second", (0, -1), (3, 1)), ("none", (0, 0), (1, 1))):
            again = Book(text)
            self.assertEqual(moved(PAIR, region, step, other, (1, 9)), moved(again, region, step, other, (1, 9)))
            self.same(home_amounts(PAIR, region, step, other), home_amounts(again, region, step, other))
            self.same((PAIR.text, PAIR.inside, PAIR.none), (text, again.inside, again.none))
        self.assertTrue(does_come_home(PAIR))
