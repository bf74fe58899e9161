"""Walks tick by tick, worked out anew by Fractions and by all ways of single steps."""

from fractions import Fraction

from cornerdrifts.books import REGIONS, Book, exchanged, region_at
from cornerdrifts.drifts import border, drift, turns
from cornerdrifts.errors import BadCorner, BadPair, BadTicks
from cornerdrifts.sides import pace, shares
from cornerdrifts.ticks import after, home_by, lasting, means_after
from tests.checks import plain_books, region_steps
from tests.samples import Case, any_values, book, chances, full_region, pair_of, queue, random_books, region_of
from tests.samples import steered_book

ZERO, ONE = (0, 1), (1, 1)
FARTHEST = 10 ** 6
# The book of the examples in section 9 of the document.
ROWS = ["book", "inside", "step -1 0 1/2", "step 0 -1 1/2", "first", "step -1 0 1/2", "step -1 1 1/2", "second"]
FALLING = Book("\n".join(ROWS + ["step 0 -1 1/2", "step 1 -1 1/2", "none", "step 1 0 1/2", "step 0 1 1/2"]))
# Each region leaps by 3, and by less.
LEAPING = book(
    [(3, 3, 1, 4), (-1, -1, 1, 2), (3, -1, 1, 4)], [(-1, 3, 1, 3), (-1, 0, 2, 3)], [(3, -1, 1, 3), (0, -1, 2, 3)],
    [(3, 3, 1, 2), (0, 0, 1, 2)],
)
PAIRS = [(0, 0), (1, 0), (0, 1), (1, 1), (2, 1), (0, 3), (5, 0), (7, 9), (FARTHEST, FARTHEST), (0, FARTHEST)]
BAD_TICKS = [-1, 9, 10, -8, 10 ** 11, "1", (1,), [1], (1, 1), 10 ** 12 - 1]
BAD_CORNERS = [-1, FARTHEST + 1, 10 ** 11, -FARTHEST, "1", (1,), [1], (1, 1)]
BAD_PAIRS = [
    (-1, 0), (0, -1), (FARTHEST + 1, 0), (0, FARTHEST + 1), (10 ** 9, 10 ** 9), (0, 10 ** 11), 0, 1, (1, 2, 3), (1,),
    [0, 0], [1, 2], (True, 0), (0, False), ("1", 2), ((1, 2),), "(1, 2)",
]


def many_books():
    return [FALLING, LEAPING, queue()] + random_books(81, 12)


def walk(one, pair, ticks):
    """The chances of all pairs behind some ticks."""
    spread = {pair: Fraction(1)}
    for _ in range(ticks):
        found = {}
        for (x, y), chance in spread.items():
            for (i, j), part in chances(region_steps(one, x, y)).items():
                found[x + i, y + j] = found.get((x + i, y + j), 0) + chance * part
        spread = found
    return spread


def stays_above(one, x, y, corner, ticks):
    """The chance that a walk is above a corner at each of the ticks 0 to ticks, way by way."""
    if x + y <= corner:
        return Fraction(0)
    if ticks == 0:
        return Fraction(1)
    steps = chances(region_steps(one, x, y)).items()
    return sum(chance * stays_above(one, x + i, y + j, corner, ticks - 1) for (i, j), chance in steps)


class After(Case):
    def test_no_ticks(self):
        for one in many_books():
            for pair in PAIRS:
                self.same(after(one, pair, 0), ((pair, ONE),))

    def test_one_tick(self):
        self.same(after(FALLING, (2, 1), 1), (((1, 1), (1, 2)), ((2, 0), (1, 2))))
        self.same(after(LEAPING, (4, 1), 1), (((3, 0), (1, 2)), ((7, 0), (1, 4)), ((7, 4), (1, 4))))
        self.same(after(LEAPING, (0, 1), 1), (((0, 0), (2, 3)), ((3, 0), (1, 3))))
        self.same(after(LEAPING, (2, 0), 1), (((1, 0), (2, 3)), ((1, 3), (1, 3))))
        self.same(after(LEAPING, (0, 0), 1), (((0, 0), (1, 2)), ((3, 3), (1, 2))))

    def test_all_ticks(self):
        for one in many_books():
            for pair in PAIRS:
                for ticks in range(9) if one in (FALLING, LEAPING) else (1, 2, 5):
                    found = after(one, pair, ticks)
                    wanted = walk(one, pair, ticks)
                    self.same(found, tuple((place, pair_of(wanted[place])) for place in sorted(wanted)))
                    self.assertEqual(sum(Fraction(*chance) for _, chance in found), 1)
                    self.assertTrue(all(chance[0] > 0 for _, chance in found))

    def test_chances_behind_eight_ticks(self):
        # Inside it goes up by 3 or down by 1, so the pair tells how often.
        one = book([(3, 3, 1, 3), (-1, -1, 2, 3)], [(0, 0, 1, 1)], [(0, 0, 1, 1)])
        found = after(one, (FARTHEST, 9), 8)
        self.assertEqual(len(found), 9)
        self.same(found[0], ((FARTHEST - 8, 1), (256, 6561)))
        self.same(found[8], ((FARTHEST + 24, 33), (1, 6561)))
        self.same(found[1], ((FARTHEST - 4, 5), (1024, 6561)))

    def test_steps_add_up_over_ticks(self):
        for one in many_books():
            spread = {}
            for place, chance in after(one, (1, 2), 3):
                for behind, part in after(one, place, 2):
                    spread[behind] = spread.get(behind, 0) + Fraction(*chance) * Fraction(*part)
            self.same(after(one, (1, 2), 5), tuple((place, pair_of(spread[place])) for place in sorted(spread)))

    def test_twelve_steps_and_long_bottoms(self):
        lines = ["book"]
        for region in REGIONS:
            lines += full_region(region, 12)
        full = Book("\n".join(lines))
        self.assertEqual(sum(Fraction(*chance) for _, chance in after(full, (1, 1), 8)), 1)
        least = Fraction(1, 999999999989)
        one = book([(-1, 0, 1, 999999999989), (0, -1, 999999999988, 999999999989)], [(0, 0, 1, 1)], [(0, 0, 1, 1)])
        self.same(after(one, (9, 9), 8)[0], ((1, 9), pair_of(least ** 8)))

    def test_exchanged(self):
        for one in many_books():
            wanted = sorted(((y, x), chance) for (x, y), chance in after(one, (2, 0), 4))
            self.same(after(exchanged(one), (0, 2), 4), tuple(wanted))

    def test_by_name(self):
        self.same(after(ticks=2, pair=(1, 1), book=FALLING), (((0, 0), (1, 2)), ((0, 1), (1, 4)), ((1, 0), (1, 4))))


class MeansAfter(Case):
    def test_as_after_makes_them(self):
        for one in many_books():
            for pair in PAIRS:
                for ticks in (0, 1, 2, 3, 8) if one in (FALLING, LEAPING) else (0, 1, 3):
                    spread = [(place, Fraction(*chance)) for place, chance in after(one, pair, ticks)]
                    wanted = tuple(pair_of(sum(place[at] * chance for place, chance in spread)) for at in (0, 1))
                    self.same(means_after(one, pair, ticks), wanted)

    def test_no_ticks(self):
        self.same(means_after(LEAPING, (4, 0), 0), ((4, 1), ZERO))

    def test_one_tick_goes_by_the_drift(self):
        for one in many_books():
            for pair in PAIRS:
                wanted = tuple(
                    pair_of(length + Fraction(*part)) for length, part in zip(pair, drift(one, region_at(pair)))
                )
                self.same(means_after(one, pair, 1), wanted)

    def test_far_inside_all_ticks_go_by_the_drift(self):
        for one in many_books():
            for ticks in range(9):
                wanted = tuple(pair_of(9 + ticks * Fraction(*part)) for part in drift(one, "inside"))
                self.same(means_after(one, (9, 9), ticks), wanted)

    def test_by_name(self):
        self.same(means_after(ticks=1, pair=(2, 1), book=FALLING), ((3, 2), (1, 2)))


class Stays(Case):
    """home_by and lasting."""

    def test_single_ways(self):
        for one in [FALLING, queue()] + random_books(82, 8):
            for pair in ((0, 0), (1, 0), (0, 2), (1, 1), (2, 1), (3, 3)):
                for corner in (0, 1, 2, 3):
                    alive = [stays_above(one, *pair, corner, tick) for tick in range(5)]
                    for ticks in range(5):
                        self.same(home_by(one, pair, corner, ticks), pair_of(1 - alive[ticks]))
                        self.same(lasting(one, pair, corner, ticks), pair_of(sum(alive[:ticks], Fraction(0))))

    def test_in_the_corner_and_on_its_edge(self):
        for one in many_books():
            for pair, corner in (
                ((0, 0), 0), ((0, 0), 1), ((1, 2), 3), ((3, 0), 3), ((0, 3), 3), ((1, 1), 3), ((5, 7), FARTHEST),
                ((FARTHEST, 0), FARTHEST), ((0, FARTHEST), FARTHEST),
            ):
                for ticks in (0, 1, 8):
                    self.same(home_by(one, pair, corner, ticks), ONE)
                    self.same(lasting(one, pair, corner, ticks), ZERO)

    def test_no_ticks_above_the_corner(self):
        for one in many_books():
            for pair, corner in (((1, 0), 0), ((2, 2), 3), ((FARTHEST, 1), FARTHEST), ((FARTHEST, FARTHEST), FARTHEST)):
                self.same(home_by(one, pair, corner, 0), ZERO)
                self.same(lasting(one, pair, corner, 0), ZERO)
                self.same(lasting(one, pair, corner, 1), ONE)

    def test_who_comes_back_is_not_above_again(self):
        # From 1 it falls to 0, and rises again: only the first tick counts.
        one = book([(0, 0, 1, 1)], [(-1, 0, 1, 1)], [(0, 0, 1, 1)], [(1, 0, 1, 1)])
        for ticks in range(1, 9):
            self.same(lasting(one, (1, 0), 0, ticks), ONE)
            self.same(home_by(one, (1, 0), 0, ticks), ONE)
            self.same(home_by(one, (8, 0), 0, ticks), ONE if ticks == 8 else ZERO)
            self.same(lasting(one, (8, 0), 0, ticks), (ticks, 1))

    def test_a_walk_that_never_comes(self):
        one = book([(1, 0, 1, 1)], [(1, 0, 1, 1)], [(0, 1, 1, 1)])
        for ticks in range(9):
            self.same(home_by(one, (3, 3), 5, ticks), ZERO)
            self.same(lasting(one, (0, 3), 2, ticks), (ticks, 1))

    def test_eight_ticks(self):
        # The mean number of ticks from (1, 1) is 3; 1/64 is what lacks behind eight.
        self.same(lasting(FALLING, (1, 1), 0, 8), (191, 64))
        self.same(home_by(FALLING, (1, 1), 0, 8), (127, 128))

    def test_both_never_fall_with_the_ticks(self):
        for one in many_books():
            for pair, corner in (((1, 1), 0), ((0, 4), 2), ((3, 0), 2)):
                waiting = [Fraction(*lasting(one, pair, corner, ticks)) for ticks in range(9)]
                self.assertEqual(waiting, sorted(waiting))
                chance = [Fraction(*home_by(one, pair, corner, ticks)) for ticks in range(9)]
                self.assertEqual(chance, sorted(chance))
                for ticks in range(8):
                    self.assertEqual(waiting[ticks + 1] - waiting[ticks], 1 - chance[ticks])

    def test_by_name(self):
        self.same(home_by(ticks=2, corner=0, pair=(1, 1), book=FALLING), (1, 2))
        self.same(lasting(ticks=3, corner=0, pair=(1, 1), book=FALLING), (5, 2))


class Wrong(Case):
    def test_pairs(self):
        for value in any_values() + BAD_PAIRS:
            for ticks in (1, 0, 9, None):
                with self.subTest(value=value, ticks=ticks):
                    self.refuses_it(BadPair, value, after, FALLING, value, ticks)
                    self.refuses_it(BadPair, value, means_after, FALLING, value, ticks)
                    for corner in (0, -1, True):
                        self.refuses_it(BadPair, value, home_by, FALLING, value, corner, ticks)
                        self.refuses_it(BadPair, value, lasting, FALLING, value, corner, ticks)
            self.refuses_it(BadPair, value, after, ticks=1, pair=value, book=FALLING)
            self.refuses_it(BadPair, value, lasting, ticks=1, corner=1, pair=value, book=FALLING)

    def test_corners(self):
        for value in any_values() + BAD_CORNERS:
            for ticks in (1, 0, 9, None):
                with self.subTest(value=value, ticks=ticks):
                    self.refuses_it(BadCorner, value, home_by, FALLING, (1, 1), value, ticks)
                    self.refuses_it(BadCorner, value, lasting, FALLING, (1, 1), value, ticks)
            self.refuses_it(BadCorner, value, home_by, ticks=1, corner=value, pair=(0, 0), book=FALLING)

    def test_ticks(self):
        for value in any_values() + BAD_TICKS:
            with self.subTest(value=value):
                self.refuses_it(BadTicks, value, after, FALLING, (1, 1), value)
                self.refuses_it(BadTicks, value, means_after, FALLING, (1, 1), value)
                self.refuses_it(BadTicks, value, home_by, FALLING, (1, 1), 0, value)
                self.refuses_it(BadTicks, value, lasting, FALLING, (1, 1), 0, value)
                self.refuses_it(BadTicks, value, lasting, ticks=value, corner=5, pair=(1, 1), book=FALLING)

    def test_the_farthest_pair_and_corner(self):
        far = (FARTHEST, FARTHEST)
        self.same(home_by(FALLING, far, FARTHEST, 8), ZERO)
        self.same(after(FALLING, far, 1), (((FARTHEST - 1, FARTHEST), (1, 2)), ((FARTHEST, FARTHEST - 1), (1, 2))))


class SidesTickByTick(Case):
    """Beside a side that a walk keeps to, shares balance, and the pace is what they make of the drifts."""

    def check(self, one, side, many):
        """The shares of a short queue that is never longer than many stay in a tick, and the long one goes by pace."""
        told = [Fraction(*share) for share in shares(one, side, many + 3)]
        self.assertEqual(sum(told), 1)
        self.assertEqual(told[many + 1:], [0, 0])
        behind, gained = {}, Fraction(0)
        for length, share in enumerate(told):
            pair = (length, 100) if side == "second" else (100, length)
            for (x, y), chance in after(one, pair, 1):
                short, long = (x, y) if side == "second" else (y, x)
                behind[short] = behind.get(short, 0) + share * Fraction(*chance)
                gained += share * Fraction(*chance) * (long - 100)
        self.assertEqual([behind.get(length, 0) for length in range(many + 3)], told)
        self.same(pace(one, side), pair_of(gained))
        return gained

    def test_balance(self):
        inside = [(-1, 1, 1, 2), (0, -1, 1, 4), (-1, 0, 1, 4)]
        for many, leap in ((1, [(1, -1, 1, 3)]), (2, [(2, 0, 1, 3)]), (3, [(3, 3, 1, 6), (1, -1, 1, 6)])):
            one = book(inside, [(0, 1, 1, 1)], leap + [(0, -1, 2, 3)])
            gained = self.check(one, "second", many)
            self.assertEqual(gained < 0, turns(one)[1][0] < 0)
            gained = self.check(exchanged(one), "first", many)
            self.assertEqual(gained < 0, turns(exchanged(one))[0][0] < 0)

    def test_a_pace_is_below_0_exactly_if_the_turn_is(self):
        seen = set()
        for one in plain_books(83, 6):
            for at, side in enumerate(("first", "second")):
                drift_inside = drift(one, "inside")[1 - at]
                if drift_inside[0] < 0:
                    beside = drift(one, side)[1 - at]
                    turn = Fraction(*turns(one)[at])
                    wanted = turn / (Fraction(*beside) - Fraction(*drift_inside))
                    self.same(pace(one, side), pair_of(wanted))
                    self.assertEqual(pace(one, side)[0] < 0, turn < 0)
                    seen.add((side, turn < 0))
        self.assertEqual(len(seen), 4)


class Unchanged(Case):
    def test_equal_calls(self):
        for one in many_books():
            again = Book(one.text)
            self.same(after(again, (1, 1), 3), after(one, (1, 1), 3))
            self.same(means_after(again, (1, 1), 3), means_after(one, (1, 1), 3))
            self.same(lasting(again, (1, 1), 0, 3), lasting(one, (1, 1), 0, 3))
            self.same(home_by(again, (1, 1), 0, 3), home_by(one, (1, 1), 0, 3))
            for region in REGIONS:
                self.same(region_of(one, region), region_of(again, region))
            self.same(one.text, again.text)

    def test_books_on_a_border(self):
        still = (Fraction(0), Fraction(0))
        one = steered_book(still, still, still)
        self.assertEqual(border(one), "x")
        self.same(means_after(one, (5, 5), 4), ((5, 1), (5, 1)))
        self.same(lasting(one, (0, 2), 0, 2), (2, 1))
        self.same(home_by(one, (0, 0), 0, 2), ONE)
