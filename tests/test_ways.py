"""Far ways: their legs, how long they last, and where they are."""

from fractions import Fraction
from random import Random

from cornerdrifts.books import Book, exchanged
from cornerdrifts.errors import Away, BadPlace, BadTime, Border, Corner
from cornerdrifts.sides import goes, pace
from cornerdrifts.ways import at_time, legs, time_home
from tests.checks import both_turns, comes_home, drifts, plain_books, turned_books
from tests.samples import Case, any_but, pair_of, steered_book

ZERO, HALF, ONE = (0, 1), (1, 2), (1, 1)
END = (ZERO, ZERO)
LOW, HIGH, FEW = Fraction(-1, 8), Fraction(1, 8), Fraction(1, 16)
# The book of the examples in section 8 of the document, and the one in which nobody helps.
ROWS = ["book", "inside", "step 1 0 3/8", "step -1 0 1/4", "step 0 -1 3/8", "first", "step 1 0 1/4", "step -1 0 1/2"]
REST = ["second", "step 1 0 1/2", "step 0 -1 1/2", "none", "step 1 0 1/2", "step 0 1 1/2"]
HELPED = Book("\n".join(ROWS + ["step 0 1 1/4"] + REST))
ALONE = Book(HELPED.text.replace("step 1 0 1/4\nstep -1 0 1/2", "step 1 0 1/2\nstep -1 0 1/4"))
# Inside both queues fall by 1/8; along first the pace is -1/24, along second -1/12.
CALM = steered_book((LOW, LOW), (Fraction(0), FEW), (FEW, -FEW))
# Both grow inside.
OPENING = steered_book((HIGH, FEW), (HIGH, HIGH), (HIGH, HIGH))
# Both fall inside, and along either side the long queue grows.
SPREADING = steered_book((LOW, LOW), (HIGH, FEW), (FEW, HIGH))
ON_BORDER = steered_book((Fraction(0), HIGH), (HIGH, HIGH), (HIGH, HIGH))

# No places.
BAD_PLACES = [
    (ONE, (-1, 2)), ((-1, 1), ONE), ((-1, 10 ** 12), ONE), (ONE, (2, 4)), ((0, 2), ONE), (ONE, (1, 0)), ((1, -1), ONE),
    (1, 2), (ONE, 1), (1, ONE), (ONE, ONE, ONE), (ONE,), ONE, [ONE, ONE], (list(ONE), ONE), ((True, 1), ONE),
    (ONE, (1, True)), (ONE, None), ("1", "1"), (ONE, "1/2"), (0, 0), ((0, 0), (0, 0)), (ZERO, (0, 3)), (END, END),
]
BAD_TIMES = [
    (-1, 2), (-1, 10 ** 12), (2, 4), (0, 2), (1, 0), (1, -1), (True, 1), (1, True), 0, 1, True, None, "1", [1, 2], (1,),
    (1, 2, 3), (ONE, ONE),
]


def place(x, y):
    return (pair_of(Fraction(x)), pair_of(Fraction(y)))


def random_places(random, many):
    """Places inside and beside both sides, with fractions."""
    found = []
    for _ in range(many):
        x, y = [Fraction(random.randint(1, 60), random.randint(1, 30)) for _ in range(2)]
        found += [(x, y), (x, Fraction(0)), (Fraction(0), y)]
    return found


def speeds(one, x, y):
    """The speeds at a place, in the words of section 8."""
    (mx, my), (ax, ay), (bx, by) = drifts(one)
    first_turn, second_turn = both_turns(one)
    if y == 0 and my < 0:
        return first_turn / (ay - my), Fraction(0)
    if x == 0 and mx < 0:
        return Fraction(0), second_turn / (bx - mx)
    return mx, my


def follow(one, x, y):
    """The legs of a far way, told by Fractions."""
    found = []
    while (x, y) != (0, 0):
        speed_x, speed_y = speeds(one, x, y)
        times = [length / -speed for length, speed in ((x, speed_x), (y, speed_y)) if speed < 0]
        time = min(times, default=None)
        found.append((x, y, speed_x, speed_y, time))
        if time is None:
            break
        x, y = x + speed_x * time, y + speed_y * time
    return found


def told(leg):
    return tuple(None if part is None else pair_of(part) for part in leg)


def many_books():
    return plain_books(71, 4) + turned_books(Fraction(1, 10 ** 6))


class Legs(Case):
    def test_inside_and_along(self):
        # From (2, 3) x is 0 first, behind 16 ticks.
        self.same(legs(CALM, place(2, 3)), (
            ((2, 1), (3, 1), (-1, 8), (-1, 8), (16, 1)), (ZERO, ONE, ZERO, (-1, 12), (12, 1)),
        ))
        self.same(legs(CALM, place(3, 2)), (
            ((3, 1), (2, 1), (-1, 8), (-1, 8), (16, 1)), (ONE, ZERO, (-1, 24), ZERO, (24, 1)),
        ))
        self.same(legs(exchanged(CALM), place(3, 2)), (
            ((3, 1), (2, 1), (-1, 8), (-1, 8), (16, 1)), (ONE, ZERO, (-1, 12), ZERO, (12, 1)),
        ))

    def test_beside_the_sides(self):
        self.same(legs(CALM, place(Fraction(1, 3), 0)), (((1, 3), ZERO, (-1, 24), ZERO, (8, 1)),))
        self.same(legs(CALM, place(0, Fraction(1, 3))), ((ZERO, (1, 3), ZERO, (-1, 12), (4, 1)),))

    def test_both_are_empty_at_once(self):
        self.same(legs(CALM, place(Fraction(1, 2), Fraction(1, 2))), ((HALF, HALF, (-1, 8), (-1, 8), (4, 1)),))

    def test_from_a_side_inside(self):
        # In HELPED x grows inside, y falls.
        self.same(legs(HELPED, place(0, 3)), (
            (ZERO, (3, 1), (1, 8), (-3, 8), (8, 1)), (ONE, ZERO, (-1, 10), ZERO, (10, 1)),
        ))
        self.same(legs(exchanged(HELPED), place(3, 0)), (
            ((3, 1), ZERO, (-3, 8), (1, 8), (8, 1)), (ZERO, ONE, ZERO, (-1, 10), (10, 1)),
        ))

    def test_for_ever(self):
        for one, x, y, wanted in (
            (OPENING, 1, 2, ((ONE, (2, 1), (1, 8), (1, 16), None),)),
            (OPENING, 1, 0, ((ONE, ZERO, (1, 8), (1, 16), None),)),
            (OPENING, 0, 2, ((ZERO, (2, 1), (1, 8), (1, 16), None),)),
            (ALONE, 7, 0, (((7, 1), ZERO, (1, 5), ZERO, None),)),
            (SPREADING, 0, 1, ((ZERO, ONE, ZERO, (1, 24), None),)),
            (SPREADING, 2, 1, (((2, 1), ONE, (-1, 8), (-1, 8), (8, 1)), (ONE, ZERO, (1, 24), ZERO, None))),
            (SPREADING, 1, 2, ((ONE, (2, 1), (-1, 8), (-1, 8), (8, 1)), (ZERO, ONE, ZERO, (1, 24), None))),
        ):
            self.same(legs(one, place(x, y)), wanted)

    def test_a_book_that_goes_away_may_end(self):
        self.same(legs(SPREADING, place(1, 1)), ((ONE, ONE, (-1, 8), (-1, 8), (8, 1)),))
        self.same(time_home(SPREADING, place(1, 1)), (8, 1))
        self.same(at_time(SPREADING, place(1, 1), (9, 1)), END)

    def test_all_books(self):
        random = Random(72)
        for one in many_books():
            ends = []
            for x, y in random_places(random, 2):
                found = legs(one, place(x, y))
                wanted = follow(one, x, y)
                self.same(found, tuple(told(leg) for leg in wanted))
                self.assertIn(len(found), (1, 2))
                ends.append(wanted[-1][4] is not None)
            self.assertTrue(all(ends) or not comes_home(one))
            beside = [legs(one, place(1, 0)), legs(one, place(0, 1))]
            if not comes_home(one):
                self.assertTrue(any(way[-1][4] is None for way in beside))

    def test_they_hang_together(self):
        random = Random(73)
        for one in many_books():
            for x, y in random_places(random, 1):
                way = legs(one, place(x, y))
                self.same(way[0][:2], place(x, y))
                for at, (leg_x, leg_y, speed_x, speed_y, time) in enumerate(way):
                    if time is None:
                        self.assertEqual(at, len(way) - 1)
                        continue
                    self.assertGreater(time[0], 0)
                    end = [
                        Fraction(*length) + Fraction(*speed) * Fraction(*time)
                        for length, speed in ((leg_x, speed_x), (leg_y, speed_y))
                    ]
                    self.assertEqual(min(end), 0)
                    self.same(place(*end), way[at + 1][:2] if at + 1 < len(way) else END)

    def test_far_and_near(self):
        random = Random(74)
        for one in many_books():
            for x, y in random_places(random, 1):
                near = legs(one, place(x, y))
                for n in (2, 7, 10 ** 9):
                    far = legs(one, place(n * x, n * y))
                    self.assertEqual(len(far), len(near))
                    for far_leg, leg in zip(far, near):
                        self.same(far_leg[2:4], leg[2:4])
                        for at in (0, 1, 4):
                            wanted = None if leg[at] is None else pair_of(n * Fraction(*leg[at]))
                            self.same(far_leg[at], wanted)

    def test_exchanged(self):
        for one in many_books():
            for x, y in ((1, 2), (Fraction(1, 3), 0), (0, 5)):
                wanted = tuple((b, a, d, c, time) for a, b, c, d, time in legs(one, place(x, y)))
                self.same(legs(exchanged(one), place(y, x)), wanted)


class TimeHome(Case):
    def test_values(self):
        self.same(time_home(CALM, place(2, 3)), (28, 1))
        self.same(time_home(CALM, place(0, Fraction(1, 3))), (4, 1))
        self.same(time_home(CALM, place(Fraction(1, 2), Fraction(1, 2))), (4, 1))
        self.same(time_home(HELPED, place(Fraction(1, 3), 0)), (10, 3))

    def test_all_books(self):
        random = Random(75)
        seen = set()
        for one in many_books():
            for x, y in random_places(random, 2):
                way = follow(one, x, y)
                if way[-1][4] is None:
                    seen.add(goes(one)[0])
                    self.assertFalse(comes_home(one))
                    self.refuses(Away, goes(one), time_home, one, place(x, y))
                else:
                    self.same(time_home(one, place(x, y)), pair_of(sum(leg[4] for leg in way)))
        self.assertEqual(seen, {"inside", "either", "first", "second"})

    def test_away(self):
        self.refuses(Away, ("inside", ((1, 8), (1, 16))), time_home, OPENING, place(1, 1))
        self.refuses(Away, ("first", (1, 5)), time_home, ALONE, place(7, 0))
        self.refuses(Away, ("first", (1, 5)), time_home, ALONE, place(0, 3))
        self.refuses(Away, ("either", (1, 24), (1, 24)), time_home, SPREADING, place(2, 1))
        self.refuses(Away, ("either", (1, 24), (1, 24)), time_home, place=place(1, 2), book=SPREADING)

    def test_it_falls_as_time_goes_by(self):
        for one in many_books():
            for x, y in ((2, 3), (Fraction(5, 2), 0), (0, 1)):
                if legs(one, place(x, y))[-1][4] is None:
                    continue
                whole = Fraction(*time_home(one, place(x, y)))
                for share in (Fraction(1, 7), Fraction(1, 2), Fraction(9, 10)):
                    there = at_time(one, place(x, y), pair_of(whole * share))
                    self.same(time_home(one, there), pair_of(whole - whole * share))


class AtTime(Case):
    def test_along_a_way(self):
        for time, wanted in (
            (0, (2, 3)), (Fraction(1, 2), (Fraction(31, 16), Fraction(47, 16))), (8, (1, 2)), (16, (0, 1)),
            (22, (0, Fraction(1, 2))), (28, (0, 0)), (Fraction(281, 10), (0, 0)), (10 ** 11, (0, 0)),
            (28 - Fraction(1, 10 ** 6), (0, Fraction(1, 12 * 10 ** 6))),
        ):
            self.same(at_time(CALM, place(2, 3), pair_of(Fraction(time))), place(*wanted))

    def test_beside_a_side(self):
        self.same(at_time(CALM, place(1, 0), ZERO), place(1, 0))
        self.same(at_time(CALM, place(1, 0), (6, 1)), place(Fraction(3, 4), 0))
        self.same(at_time(CALM, place(1, 0), (24, 1)), END)
        self.same(at_time(CALM, place(1, 0), (25, 1)), END)

    def test_a_way_that_never_ends(self):
        self.same(at_time(OPENING, place(0, 1), (10 ** 11, 1)), place(10 ** 11 // 8, 1 + Fraction(10 ** 11, 16)))
        # From (2, 3) y is 0 behind 8 ticks, x is 3 then; it grows by 1/5 in a tick.
        for time, wanted in (
            (0, (2, 3)), (4, (Fraction(5, 2), Fraction(3, 2))), (8, (3, 0)), (13, (4, 0)), (508, (103, 0)),
        ):
            self.same(at_time(ALONE, place(2, 3), (time, 1)), place(*wanted))

    def test_all_books(self):
        for one in many_books():
            for x, y in ((Fraction(2), Fraction(3)), (Fraction(5, 2), Fraction(0)), (Fraction(0), Fraction(1, 7))):
                way = follow(one, x, y)
                begun = Fraction(0)
                for leg_x, leg_y, speed_x, speed_y, time in way:
                    for part in (Fraction(0), Fraction(1, 3), Fraction(1)):
                        gone = part * (Fraction(99) if time is None else time)
                        wanted = place(leg_x + speed_x * gone, leg_y + speed_y * gone)
                        self.same(at_time(one, place(x, y), pair_of(begun + gone)), wanted)
                    if time is None:
                        break
                    begun += time
                else:
                    self.same(at_time(one, place(x, y), pair_of(begun)), END)
                    self.same(at_time(one, place(x, y), pair_of(begun + Fraction(1, 10 ** 12))), END)
                    self.same(at_time(one, place(x, y), pair_of(begun + 1)), END)

    def test_by_name(self):
        self.same(at_time(time=(8, 1), place=place(2, 3), book=CALM), place(1, 2))
        self.same(legs(place=place(2, 3), book=CALM), legs(CALM, place(2, 3)))
        self.same(time_home(place=place(2, 3), book=CALM), (28, 1))


class Wrong(Case):
    def test_places(self):
        for value in any_but((HALF, HALF)) + BAD_PLACES:
            for one in (CALM, OPENING, SPREADING):
                with self.subTest(value=value):
                    self.refuses_it(BadPlace, value, legs, one, value)
                    self.refuses_it(BadPlace, value, time_home, one, value)
                    self.refuses_it(BadPlace, value, at_time, one, value, ONE)
                    self.refuses_it(BadPlace, value, at_time, time=None, place=value, book=one)

    def test_the_corner(self):
        for one in (CALM, OPENING, SPREADING):
            self.refuses(Corner, None, legs, one, END)
            self.refuses(Corner, None, time_home, one, END)
            for time in (ZERO, ONE, (-1, 1), None):
                self.refuses(Corner, None, at_time, one, END, time)

    def test_times(self):
        for value in any_but(HALF, ONE) + BAD_TIMES:
            for one in (CALM, OPENING, SPREADING):
                with self.subTest(value=value):
                    self.refuses_it(BadTime, value, at_time, one, place(1, 2), value)
                    self.refuses_it(BadTime, value, at_time, time=value, place=place(1, 0), book=one)

    def test_the_border_comes_first(self):
        for word, one in (("x", ON_BORDER), ("y", exchanged(ON_BORDER))):
            for value in (place(1, 2), END, None, (1, 2)):
                self.refuses(Border, word, legs, one, value)
                self.refuses(Border, word, legs, place=value, book=one)
                self.refuses(Border, word, time_home, one, value)
                for time in (ONE, None):
                    self.refuses(Border, word, at_time, one, value, time)

    def test_a_border_that_the_way_does_not_meet(self):
        one = steered_book((HIGH, HIGH), (HIGH, HIGH), (Fraction(0), HIGH))
        self.refuses(Border, "second", legs, one, place(1, 2))


class Unchanged(Case):
    def test_equal_calls(self):
        for one in (CALM, OPENING, SPREADING, HELPED, ALONE):
            again = Book(one.text)
            for x, y in ((1, 1), (2, 3), (0, 1), (Fraction(7, 3), 0)):
                self.same(legs(again, place(x, y)), legs(one, place(x, y)))
                self.same(at_time(again, place(x, y), (7, 2)), at_time(one, place(x, y), (7, 2)))
            self.same((one.inside, one.first, one.second), (again.inside, again.first, again.second))


class Paces(Case):
    def test_the_legs_along_sides_have_them(self):
        for one in many_books():
            (mx, my), _, _ = drifts(one)
            if my < 0:
                self.same(legs(one, place(1, 0))[0][2:4], (pace(one, "first"), ZERO))
            if mx < 0:
                self.same(legs(one, place(0, 1))[0][2:4], (ZERO, pace(one, "second")))
