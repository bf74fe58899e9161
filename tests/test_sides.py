"""Sides: shares, paces, mean lengths, and where a walk goes."""

from fractions import Fraction

from cornerdrifts.books import Book, exchanged, slowed
from cornerdrifts.drifts import border
from cornerdrifts.errors import BadNumber, Border, Leaves, NoSide
from cornerdrifts.sides import goes, mean_beside, pace, share_beside, shares
from tests.checks import both_turns, comes_home, drifts, is_plain, plain_books, turned_books
from tests.samples import Case, any_values, book, deep, pair_of, queue, random_books, steered_book

ZERO = (0, 1)
SIDES = ("first", "second")
OTHER = {"first": "second", "second": "first"}
# Inside x falls and y grows, and the other way round.
LOW, HIGH = Fraction(-1, 8), Fraction(1, 8)
FALLING = steered_book((LOW, Fraction(1, 9)), (Fraction(1, 10), HIGH), (Fraction(1, 12), LOW), long=True)
LEANING = exchanged(FALLING)
# Both grow inside.
OPENING = steered_book((HIGH, Fraction(1, 9)), (HIGH, HIGH), (HIGH, LOW))
ON_BORDER = steered_book((Fraction(0), HIGH), (HIGH, HIGH), (HIGH, HIGH))


def short_steps(one, side):
    """The chances of what the short queue gains, where it is empty, and where it is not."""
    found = []
    for steps in (one.second if side == "second" else one.first, one.inside):
        gains = {}
        for i, j, chance in steps:
            gain = i if side == "second" else j
            gains[gain] = gains.get(gain, 0) + Fraction(*chance)
        found.append(gains)
    return found


def stays(one, side):
    mean_x, mean_y = drifts(one)[0]
    return (mean_x if side == "second" else mean_y) < 0


def staying(books):
    """The books, each with a side beside which its walk stays."""
    return [(one, side) for one in books for side in SIDES if stays(one, side)]


def many_books():
    return plain_books(61, 6) + turned_books(Fraction(1, 10 ** 6))


class ShareBeside(Case):
    def test_values(self):
        # Mx is -1/8, Bx 1/12.
        self.same(share_beside(FALLING, "second"), (3, 5))
        self.same(share_beside(LEANING, "first"), (3, 5))
        self.same(share_beside(side="second", book=FALLING), (3, 5))

    def test_all_books(self):
        for one, side in staying(many_books()):
            (mx, my), (_, ay), (bx, _) = drifts(one)
            wanted = -mx / (bx - mx) if side == "second" else -my / (ay - my)
            self.same(share_beside(one, side), pair_of(wanted))
            self.assertTrue(0 < wanted < 1)
            self.same(share_beside(exchanged(one), OTHER[side]), pair_of(wanted))


class Pace(Case):
    def test_values(self):
        # Of the ticks 3/5 are beside second, where y falls by 1/8.
        self.same(pace(FALLING, "second"), pair_of(Fraction(3, 5) * Fraction(-1, 8) + Fraction(2, 5) * Fraction(1, 9)))
        self.same(pace(side="first", book=LEANING), pace(FALLING, "second"))

    def test_all_books(self):
        for one, side in staying(many_books()):
            (mx, my), (ax, ay), (bx, by) = drifts(one)
            first_turn, second_turn = both_turns(one)
            wanted = second_turn / (bx - mx) if side == "second" else first_turn / (ay - my)
            found = pace(one, side)
            self.same(found, pair_of(wanted))
            share = Fraction(*share_beside(one, side))
            beside, inside = (by, my) if side == "second" else (ax, mx)
            self.assertEqual(wanted, share * beside + (1 - share) * inside)
            self.assertEqual(found[0] < 0, (second_turn if side == "second" else first_turn) < 0)
            self.same(pace(exchanged(one), OTHER[side]), found)


class Shares(Case):
    def test_values(self):
        # Only from 0 it goes up, by 1: inside it falls by 1, or stays.
        one = book([(-1, 1, 1, 2), (0, 0, 1, 2)], [(0, 1, 1, 1)], [(1, -1, 1, 3), (0, -1, 2, 3)])
        self.same(shares(one, "second", 5), ((3, 5), (2, 5), ZERO, ZERO, ZERO))
        self.same(shares(exchanged(one), "first", 5), ((3, 5), (2, 5), ZERO, ZERO, ZERO))

    def test_leaps_of_three(self):
        one = book([(-1, 1, 1, 2), (0, 0, 1, 2)], [(0, 1, 1, 1)], [(3, 0, 1, 3), (0, -1, 2, 3)])
        self.same(shares(one, "second", 6), ((1, 3), (2, 9), (2, 9), (2, 9), ZERO, ZERO))

    def test_how_many(self):
        for one, side in ((FALLING, "second"), (LEANING, "first")):
            self.same(shares(one, side, 0), ())
            self.same(shares(one, side, 1), (share_beside(one, side),))
            whole = shares(one, side, 40)
            self.assertEqual(len(whole), 40)
            for many in (0, 1, 2, 3, 17, 39, 40):
                self.same(shares(one, side, many), whole[:many])
            self.same(shares(many=4, side=side, book=one), whole[:4])

    def test_balances_of_single_lengths(self):
        for one, side in staying(many_books()):
            found = [Fraction(*share) for share in shares(one, side, 14)]
            beside, inside = short_steps(one, side)
            for length in range(12):
                coming = Fraction(0)
                for ahead in range(14):
                    gains = inside if ahead else beside
                    coming += found[ahead] * gains.get(length - ahead, 0)
                self.assertEqual(coming, found[length])

    def test_they_add_up_to_one(self):
        for one, side in staying(many_books()):
            total = Fraction(0)
            for share in shares(one, side, 40):
                self.assertGreaterEqual(share[0], 0)
                total += Fraction(*share)
            self.assertLessEqual(total, 1)
        total = sum(Fraction(*share) for share in shares(book(
            [(-1, 1, 9, 10), (3, 0, 1, 10)], [(0, 1, 1, 1)], [(1, -1, 1, 3), (0, -1, 2, 3)],
        ), "second", 40))
        self.assertTrue(Fraction(99, 100) < total < 1)

    def test_exchanged_and_slowed(self):
        for one, side in staying(plain_books(62, 3)):
            found = shares(one, side, 12)
            self.same(shares(exchanged(one), OTHER[side], 12), found)
            if max(len(one.inside), len(one.first), len(one.second), len(one.none)) < 12:
                slow = slowed(one, (2, 7))
                self.same(shares(slow, side, 12), found)
                self.same(mean_beside(slow, side), mean_beside(one, side))
                self.same(pace(slow, side), pair_of(Fraction(*pace(one, side)) * Fraction(2, 7)))


class MeanBeside(Case):
    def test_values(self):
        # Only 0 and 1 have shares, 3/5 and 2/5.
        one = book([(-1, 1, 1, 2), (0, 0, 1, 2)], [(0, 1, 1, 1)], [(1, -1, 1, 3), (0, -1, 2, 3)])
        self.same(mean_beside(one, "second"), (2, 5))
        self.same(mean_beside(side="first", book=exchanged(one)), (2, 5))
        leaping = book([(-1, 1, 1, 2), (0, 0, 1, 2)], [(0, 1, 1, 1)], [(3, 0, 1, 3), (0, -1, 2, 3)])
        self.same(mean_beside(leaping, "second"), (4, 3))

    def test_all_books(self):
        for one, side in staying(many_books()):
            beside, inside = short_steps(one, side)
            share = Fraction(*share_beside(one, side))
            squares = [sum(gain * gain * chance for gain, chance in gains.items()) for gains in (beside, inside)]
            fall = sum(gain * chance for gain, chance in inside.items())
            wanted = -(share * squares[0] + (1 - share) * squares[1]) / (2 * fall)
            self.same(mean_beside(one, side), pair_of(wanted))
            self.same(mean_beside(exchanged(one), OTHER[side]), pair_of(wanted))

    def test_it_is_the_mean_of_the_shares(self):
        for one, side in staying(plain_books(63, 6)):
            mean = Fraction(*mean_beside(one, side))
            told = [Fraction(*share) for share in shares(one, side, 40)]
            if 1 - sum(told) < Fraction(1, 10 ** 6):
                near = sum(length * share for length, share in enumerate(told))
                self.assertTrue(0 <= mean - near < Fraction(1, 1000), (one.text, side))


class Goes(Case):
    def test_words(self):
        low, high, few = LOW, HIGH, Fraction(1, 16)
        home = steered_book((low, low), (low, few), (few, low))
        self.same(goes(home), ("home",))
        self.same(goes(OPENING), ("inside", ((1, 8), (1, 9))))
        # The first turn is 1/8 * 1/16; Ay - My is 3/16.
        first = steered_book((low, low), (high, few), (few, low))
        self.same(goes(first), ("first", (1, 24)))
        second = steered_book((low, low), (low, few), (few, high))
        self.same(goes(second), ("second", (1, 24)))
        either = steered_book((low, low), (high, few), (few / 2, high))
        self.same(goes(either), ("either", (1, 24), (3, 40)))
        self.same(goes(exchanged(either)), ("either", (3, 40), (1, 24)))
        self.same(goes(book=second), goes(second))

    def test_sides_that_are_not_asked(self):
        low, high, few = LOW, HIGH, Fraction(1, 16)
        # Both turns are above 0, but only one is asked.
        one = steered_book((low, high), (low, few), (few, few))
        self.assertGreater(min(both_turns(one)), 0)
        self.same(goes(one), ("second", pace(one, "second")))
        self.same(goes(exchanged(one)), ("first", pace(one, "second")))
        # Neither is asked.
        self.same(goes(steered_book((high, high), (few, high), (few, low)))[0], "inside")

    def test_all_books(self):
        seen = set()
        for one in many_books() + random_books(64, 200):
            if not is_plain(one):
                self.refuses(Border, border(one), goes, one)
                continue
            found = goes(one)
            seen.add(found[0])
            (mx, my), _, _ = drifts(one)
            first_turn, second_turn = both_turns(one)
            self.assertEqual(found[0] == "home", comes_home(one))
            if found[0] == "home":
                wanted = ("home",)
            elif mx > 0 and my > 0:
                wanted = ("inside", (pair_of(mx), pair_of(my)))
            elif mx < 0 and my < 0 and first_turn > 0 and second_turn > 0:
                wanted = ("either", pace(one, "first"), pace(one, "second"))
            elif my < 0 and first_turn > 0:
                wanted = ("first", pace(one, "first"))
            else:
                wanted = ("second", pace(one, "second"))
            self.same(found, wanted)
        self.assertEqual(seen, {"home", "inside", "either", "first", "second"})


class Wrong(Case):
    def test_no_sides(self):
        values = any_values() + [0, 1, "none", "First", "second ", ("first",), ["first"], SIDES, {"first"}, deep(3)]
        for value in values:
            for one in (FALLING, OPENING):
                for call in (share_beside, pace, mean_beside):
                    with self.subTest(value=value):
                        self.refuses_it(NoSide, value, call, one, value)
                        self.refuses_it(NoSide, value, call, side=value, book=one)
                self.refuses_it(NoSide, value, shares, one, value, 3)
                self.refuses_it(NoSide, value, shares, one, value, -1)

    def test_no_numbers(self):
        values = any_values() + [-1, 41, 42, -10 ** 11, 10 ** 11, "3", (3,), [3], (3, 1)]
        for value in values:
            with self.subTest(value=value):
                self.refuses_it(BadNumber, value, shares, FALLING, "second", value)
                self.refuses_it(BadNumber, value, shares, many=value, side="first", book=LEANING)

    def test_the_walk_leaves(self):
        for one, side in (
            (FALLING, "first"), (LEANING, "second"), (OPENING, "first"), (OPENING, "second"),
        ):
            for call in (share_beside, pace, mean_beside):
                self.refuses(Leaves, side, call, one, side)
                self.refuses(Leaves, side, call, side=side, book=one)
            for many in (3, 0, 40, 41, -1, None, True):
                self.refuses(Leaves, side, shares, one, side, many)

    def test_the_border_comes_first(self):
        for word, one in (("x", ON_BORDER), ("y", exchanged(ON_BORDER))):
            for side in SIDES + ("none", None, 1):
                for call in (share_beside, pace, mean_beside):
                    self.refuses(Border, word, call, one, side)
                self.refuses(Border, word, shares, one, side, 3)
                self.refuses(Border, word, shares, one, side, -1)
            self.refuses(Border, word, goes, one)
            self.refuses(Border, word, goes, book=one)

    def test_a_border_of_the_other_side(self):
        some = Fraction(1, 8)
        one = steered_book((-some, some), (some, Fraction(0)), (some, -some))
        for call in (share_beside, pace, mean_beside):
            self.refuses(Border, "first", call, one, "second")


class Unchanged(Case):
    def test_equal_calls(self):
        for one in (FALLING, LEANING, queue()):
            again = Book(one.text)
            side = "first" if one == LEANING else "second"
            for call in (share_beside, pace, mean_beside):
                found = call(one, side)
                self.same(call(again, side), found)
                self.same(call(one, side), found)
            self.same(shares(again, side, 9), shares(one, side, 9))
            self.same(goes(again), goes(one))
            self.same((one.inside, one.first, one.second), (again.inside, again.first, again.second))
