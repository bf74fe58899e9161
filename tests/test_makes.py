"""Books that are made of one hand, of two hands, and of queues that hand on."""

from fractions import Fraction
from random import Random

from cornerdrifts.books import Book
from cornerdrifts.drifts import border, does_come_home, turns
from cornerdrifts.errors import BadChances, BadShare, Loop
from cornerdrifts.makes import handed_on, load_of_hand, loads, one_hand, two_hands
from tests.checks import both_turns, comes_home, drifts, is_plain
from tests.samples import Case, any_values, pair_of

ZERO, HALF, ONE = (0, 1), (1, 2), (1, 1)
THIRD, QUARTER = (1, 3), (1, 4)
HAND = ((1, 6), (1, 6), (2, 3))
HANDS = ((1, 10), (1, 10), (2, 5), (2, 5))
# No fractions from 0 on up to 1.
BAD_PARTS = [
    (-1, 2), (-1, 10 ** 12), (3, 2), (2, 1), (10 ** 12, 999999999999), (2, 4), (1, 0), (0, 2), (0, 0), (1, -2),
    (-1, -2), (True, 2), (True, 1), (1, True), (1, 2, 3), (1,), [1, 2], [0, 1], "1/2", "1", "0", 0, 1, True, False,
    None, ((1, 2),),
]


def fraction(random):
    bottom = random.randint(1, 12)
    return Fraction(random.randint(0, bottom), bottom)


def random_chances(random, many):
    """So many chances above 0 that add up to 1."""
    weights = [random.randint(1, 9) for _ in range(many)]
    return [Fraction(weight, sum(weights)) for weight in weights]


def told(numbers):
    return [pair_of(Fraction(number)) for number in numbers]


def told_steps(steps):
    """Steps as section 11 lists them: those of chance 0 left out, what lacks to 1 behind them."""
    found = [(i, j, pair_of(chance)) for i, j, chance in steps if chance]
    rest = 1 - sum(chance for _, _, chance in steps)
    return tuple(found + ([(0, 0, pair_of(rest))] if rest else []))


def hand_numbers(random):
    a, b, m = random_chances(random, 3)
    e, g = [fraction(random) or Fraction(1) for _ in range(2)]
    return a, b, m, e, g


class OneHand(Case):
    def test_line_by_line(self):
        one = one_hand(*HAND, ONE, HALF, (3, 4))
        self.assertIs(type(one), Book)
        self.same(one.text.split("\n"), [
            "book",
            "inside", "step 1 0 1/6", "step 0 1 1/6", "step -1 0 1/2", "step 0 -1 1/12", "step 0 0 1/12",
            "first", "step 1 0 1/6", "step 0 1 1/6", "step -1 0 2/3",
            "second", "step 1 0 1/6", "step 0 1 1/6", "step 0 -1 1/3", "step 0 0 1/3",
            "none", "step 1 0 1/6", "step 0 1 1/6", "step 0 0 2/3",
        ])

    def test_chances_0_are_left_out(self):
        self.same(one_hand(*HAND, ONE, HALF, ZERO).inside, (
            (1, 0, (1, 6)), (0, 1, (1, 6)), (0, -1, (1, 3)), (0, 0, (1, 3)),
        ))
        self.same(one_hand(*HAND, ONE, HALF, ONE).inside, ((1, 0, (1, 6)), (0, 1, (1, 6)), (-1, 0, (2, 3))))

    def test_nothing_lacks(self):
        one = one_hand(*HAND, ONE, ONE, HALF)
        for steps in (one.inside, one.first, one.second):
            self.assertNotIn((0, 0), [(i, j) for i, j, _ in steps])
        self.same(one.none[2], (0, 0, (2, 3)))

    def test_all_hands(self):
        random = Random(121)
        for _ in range(80):
            a, b, m, e, g = hand_numbers(random)
            share = fraction(random)
            one = one_hand(*told((a, b, m, e, g, share)))
            come = [(1, 0, a), (0, 1, b)]
            self.same(one.inside, told_steps(come + [(-1, 0, m * share * e), (0, -1, m * (1 - share) * g)]))
            self.same(one.first, told_steps(come + [(-1, 0, m * e)]))
            self.same(one.second, told_steps(come + [(0, -1, m * g)]))
            self.same(one.none, told_steps(come))

    def test_by_name(self):
        found = one_hand(share=(3, 4), g=HALF, e=ONE, m=(2, 3), b=(1, 5), a=(2, 15))
        self.assertEqual(found, one_hand((2, 15), (1, 5), (2, 3), ONE, HALF, (3, 4)))
        self.same(found.first[:2], ((1, 0, (2, 15)), (0, 1, (1, 5))))

    def test_turns_go_by_the_load(self):
        random = Random(122)
        seen = set()
        for _ in range(200):
            numbers = hand_numbers(random)
            a, b, m, e, g = numbers
            share = fraction(random)
            load = Fraction(*load_of_hand(*told(numbers)))
            one = one_hand(*told((*numbers, share)))
            factor = m * m * e * g * (load - 1)
            self.same(turns(one), (pair_of(factor * (1 - share)), pair_of(factor * share)))
            self.assertEqual(drifts(one)[0], (a - m * share * e, b - m * (1 - share) * g))
            if border(one) is None:
                seen.add(load < 1)
                self.assertEqual(does_come_home(one), load < 1)
        self.assertEqual(seen, {True, False})

    def test_loads_around_1(self):
        # With the chance m the hand has just 2/3 to do where the load is 1.
        for a, b, m, load in (
            ((1, 6), (1, 6), (2, 3), (3, 4)), ((1, 5), (1, 5), (3, 5), ONE), ((1, 4), (1, 4), HALF, (3, 2)),
        ):
            self.same(load_of_hand(a, b, m, ONE, HALF), load)
        small = Fraction(1, 10 ** 9)
        for by in (-small, 0, small):
            a = Fraction(1, 5) + by
            numbers = told((a, Fraction(1, 5), 1 - a - Fraction(1, 5)))
            load = load_of_hand(*numbers, ONE, HALF)
            self.assertEqual((Fraction(*load) > 1) - (Fraction(*load) < 1), (by > 0) - (by < 0))
            for share in ((1, 7), (1, 2), (5, 6), ONE):
                one = one_hand(*numbers, ONE, HALF, share)
                if by == 0:
                    self.assertIn(border(one), ("first turn", "second turn"))
                elif border(one) is None:
                    self.assertIs(does_come_home(one), by < 0)


class LoadOfHand(Case):
    def test_values(self):
        self.same(load_of_hand(*HAND, ONE, HALF), (3, 4))
        self.same(load_of_hand((1, 2), QUARTER, QUARTER, THIRD, (1, 5)), (11, 1))
        self.same(load_of_hand(g=HALF, e=ONE, m=(2, 3), b=(1, 5), a=(2, 15)), (4, 5))

    def test_all_hands(self):
        random = Random(123)
        for _ in range(60):
            a, b, m, e, g = hand_numbers(random)
            self.same(load_of_hand(*told((a, b, m, e, g))), pair_of(a / (m * e) + b / (m * g)))


class TwoHands(Case):
    def test_line_by_line(self):
        one = two_hands((1, 5), (1, 10), (3, 10), (2, 5), HALF)
        self.assertIs(type(one), Book)
        self.same(one.text.split("\n"), [
            "book",
            "inside", "step 1 0 1/5", "step 0 1 1/10", "step -1 0 3/10", "step 0 -1 2/5",
            "first", "step 1 0 1/5", "step 0 1 1/10", "step -1 0 1/2", "step 0 0 1/5",
            "second", "step 1 0 1/5", "step 0 1 1/10", "step 0 -1 11/20", "step 0 0 3/20",
            "none", "step 1 0 1/5", "step 0 1 1/10", "step 0 0 7/10",
        ])

    def test_no_aid_and_all_aid(self):
        chances = ((1, 5), (1, 10), (3, 10), (2, 5))
        self.same(two_hands(*chances, ZERO).first[2:], ((-1, 0, (3, 10)), (0, 0, (2, 5))))
        self.same(two_hands(*chances, ZERO).second[2:], ((0, -1, (2, 5)), (0, 0, (3, 10))))
        self.same(two_hands(*chances, ONE).first[2:], ((-1, 0, (7, 10)),))
        self.same(two_hands(*chances, ONE).second[2:], ((0, -1, (7, 10)),))

    def test_all_hands(self):
        random = Random(124)
        for _ in range(80):
            a, b, m, k = random_chances(random, 4)
            aid = fraction(random)
            one = two_hands(*told((a, b, m, k, aid)))
            come = [(1, 0, a), (0, 1, b)]
            self.same(one.inside, told_steps(come + [(-1, 0, m), (0, -1, k)]))
            self.same(one.first, told_steps(come + [(-1, 0, m + aid * k)]))
            self.same(one.second, told_steps(come + [(0, -1, k + aid * m)]))
            self.same(one.none, told_steps(come))
            self.assertEqual(drifts(one), [(a - m, b - k), (a - m - aid * k, b), (a, b - k - aid * m)])

    def test_by_name(self):
        found = two_hands(aid=HALF, k=(2, 5), m=(3, 10), b=(1, 10), a=(1, 5))
        self.assertEqual(found, two_hands((1, 5), (1, 10), (3, 10), (2, 5), HALF))


class HandedOn(Case):
    def test_line_by_line(self):
        one = handed_on(*HANDS, HALF, QUARTER)
        self.assertIs(type(one), Book)
        self.same(one.text.split("\n"), [
            "book",
            "inside", "step 1 0 1/10", "step 0 1 1/10", "step -1 1 1/5", "step -1 0 1/5", "step 1 -1 1/10",
            "step 0 -1 3/10",
            "first", "step 1 0 1/10", "step 0 1 1/10", "step -1 1 1/5", "step -1 0 1/5", "step 0 0 2/5",
            "second", "step 1 0 1/10", "step 0 1 1/10", "step 1 -1 1/10", "step 0 -1 3/10", "step 0 0 2/5",
            "none", "step 1 0 1/10", "step 0 1 1/10", "step 0 0 4/5",
        ])

    def test_chances_0_are_left_out(self):
        self.same(handed_on(*HANDS, ZERO, ONE).inside[2:], ((-1, 0, (2, 5)), (1, -1, (2, 5))))
        self.same(handed_on(*HANDS, ONE, ZERO).first[2:], ((-1, 1, (2, 5)), (0, 0, (2, 5))))
        self.same(handed_on(*HANDS, ONE, ZERO).second[2:], ((0, -1, (2, 5)), (0, 0, (2, 5))))

    def test_all_queues(self):
        random = Random(125)
        seen = set()
        for _ in range(200):
            a, b, m, k = random_chances(random, 4)
            p, q = fraction(random), fraction(random)
            if p == q == 1:
                continue
            numbers = told((a, b, m, k, p, q))
            one = handed_on(*numbers)
            come = [(1, 0, a), (0, 1, b)]
            down, across = [(-1, 1, m * p), (-1, 0, m * (1 - p))], [(1, -1, k * q), (0, -1, k * (1 - q))]
            self.same(one.inside, told_steps(come + down + across))
            self.same(one.first, told_steps(come + down))
            self.same(one.second, told_steps(come + across))
            self.same(one.none, told_steps(come))
            first, second = [Fraction(*load) for load in loads(*numbers)]
            # Each is what comes from outside, and what the other one hands on.
            self.assertEqual(first * m, a + q * second * k)
            self.assertEqual(second * k, b + p * first * m)
            factor = k * m * (1 - p * q)
            self.assertEqual(both_turns(one), (factor * (first - 1), factor * (second - 1)))
            if is_plain(one):
                seen.add((first < 1, second < 1))
                self.assertEqual(comes_home(one), first < 1 and second < 1)
                self.assertIs(does_come_home(one), first < 1 and second < 1)
        self.assertEqual(len(seen), 4)

    def test_by_name(self):
        found = handed_on(q=QUARTER, p=HALF, k=(2, 5), m=(2, 5), b=(1, 20), a=(3, 20))
        self.assertEqual(found, handed_on((3, 20), (1, 20), (2, 5), (2, 5), HALF, QUARTER))
        self.assertNotEqual(found, handed_on((1, 20), (3, 20), (2, 5), (2, 5), HALF, QUARTER))

    def test_loop(self):
        self.refuses(Loop, None, handed_on, *HANDS, ONE, ONE)
        self.refuses(Loop, None, loads, *HANDS, ONE, ONE)
        self.refuses(Loop, None, loads, q=ONE, p=ONE, k=(2, 5), m=(2, 5), b=(1, 10), a=(1, 10))
        almost = (999999999998, 999999999999)
        self.assertIs(type(handed_on(*HANDS, ONE, almost)), Book)
        self.assertIs(type(handed_on(*HANDS, almost, ONE)), Book)


class Loads(Case):
    def test_values(self):
        self.same(loads(*HANDS, HALF, QUARTER), ((5, 14), (3, 7)))
        self.same(loads((1, 8), (1, 8), (3, 8), (3, 8), ZERO, ZERO), (THIRD, THIRD))
        self.same(loads((1, 8), (1, 8), (3, 8), (3, 8), ONE, ZERO), (THIRD, (2, 3)))
        self.same(loads((1, 8), (1, 8), (3, 8), (3, 8), ZERO, ONE), ((2, 3), THIRD))
        self.same(loads(q=QUARTER, p=HALF, k=(2, 5), m=(2, 5), b=(1, 20), a=(3, 20)), ((13, 28), (5, 14)))

    def test_around_1(self):
        small = Fraction(1, 10 ** 9)
        for by in (-small, 0, small):
            chances = told((Fraction(1, 4) + by, Fraction(1, 8), Fraction(1, 4), Fraction(3, 8) - by))
            first, second = [Fraction(*load) for load in loads(*chances, ZERO, ZERO)]
            self.assertEqual(first, 1 + 4 * by)
            one = handed_on(*chances, (1, 20), ZERO)
            self.assertEqual(turns(one)[0][0] > 0, by > 0)
            self.assertLess(second, 1)
            if by != 0:
                self.assertIs(does_come_home(one), by < 0)
            else:
                self.same(border(one), "x")


def bad_chances(many):
    """Tuples of so many values that are no chances above 0 that add up to 1."""
    good = told(random_chances(Random(126), many))
    found = []
    for value in any_values() + BAD_PARTS + [ZERO, ONE, (1, 10 ** 6)]:
        for at in range(many):
            found.append((*good[:at], value, *good[at + 1:]))
    rest = Fraction(*good[-1])
    # Below 1 and above 1 in all, and 1 with a chance of 0, or below it.
    found += [(*good[:-1], pair_of(rest + by)) for by in (Fraction(-1, 10 ** 9), Fraction(1, 10 ** 9))]
    found.append((*good[:-2], pair_of(rest + Fraction(*good[-2])), ZERO))
    found.append((*good[:-2], pair_of(rest + Fraction(*good[-2]) + 1), (-1, 1)))
    return found


class Wrong(Case):
    def refuses_chances(self, values, call, *rest):
        kept = self.raises(BadChances, call, *values, *rest)
        self.assertIs(type(kept), tuple)
        self.assertEqual(len(kept), len(values))
        for value, wanted in zip(kept, values):
            self.assertIs(value, wanted)

    def test_three_chances(self):
        for values in bad_chances(3):
            with self.subTest(values=values):
                self.refuses_chances(values, one_hand, ONE, HALF, HALF)
                self.refuses_chances(values, load_of_hand, ONE, HALF)
                self.refuses_chances(values, one_hand, None, None, None)
                self.refuses_chances(values, load_of_hand, ZERO, ZERO)

    def test_four_chances(self):
        for values in bad_chances(4):
            with self.subTest(values=values):
                self.refuses_chances(values, two_hands, HALF)
                self.refuses_chances(values, two_hands, None)
                for rest in ((HALF, HALF), (ONE, ONE), (None, None)):
                    self.refuses_chances(values, handed_on, *rest)
                    self.refuses_chances(values, loads, *rest)

    def test_chances_by_name(self):
        self.refuses(BadChances, (HALF, HALF, HALF), one_hand, share=1, g=1, e=1, m=HALF, b=HALF, a=HALF)
        self.refuses(BadChances, ((1, 2), (1, 3), (1, 4)), load_of_hand, g=1, e=1, m=(1, 4), b=(1, 3), a=(1, 2))
        self.refuses(BadChances, (ONE, 2, 3, 4), two_hands, aid=1, k=4, m=3, b=2, a=ONE)
        self.refuses(BadChances, (ONE, 2, 3, 4), loads, q=1, p=1, k=4, m=3, b=2, a=ONE)

    def test_what_a_hand_is_done_with(self):
        for value in any_values() + BAD_PARTS + [ZERO]:
            for rest in (HALF, None):
                with self.subTest(value=value):
                    self.refuses_it(BadShare, value, one_hand, *HAND, value, rest, rest)
                    self.refuses_it(BadShare, value, load_of_hand, *HAND, value, rest)
                    self.refuses_it(BadShare, value, one_hand, *HAND, ONE, value, rest)
                    self.refuses_it(BadShare, value, load_of_hand, *HAND, ONE, value)
        # e stands ahead of g, and g ahead of the share.
        self.refuses(BadShare, (3, 1), one_hand, *HAND, (3, 1), (4, 1), (5, 1))
        self.refuses(BadShare, (4, 1), one_hand, share=(5, 1), g=(4, 1), e=ONE, m=(2, 3), b=(1, 6), a=(1, 6))

    def test_shares_from_0_to_1(self):
        for value in any_values() + BAD_PARTS:
            with self.subTest(value=value):
                self.refuses_it(BadShare, value, one_hand, *HAND, ONE, HALF, value)
                self.refuses_it(BadShare, value, two_hands, *HANDS, value)
                for call in (handed_on, loads):
                    for rest in (HALF, ONE, None):
                        self.refuses_it(BadShare, value, call, *HANDS, value, rest)
                    self.refuses_it(BadShare, value, call, *HANDS, HALF, value)
                    self.refuses_it(BadShare, value, call, *HANDS, ONE, value)
        self.refuses(BadShare, (3, 1), loads, *HANDS, (3, 1), (4, 1))
        self.refuses(BadShare, (4, 1), handed_on, q=(4, 1), p=ONE, k=(2, 5), m=(2, 5), b=(1, 10), a=(1, 10))

    def test_the_ends_are_in(self):
        for value in (ZERO, ONE):
            for made in (one_hand(*HAND, ONE, HALF, value), two_hands(*HANDS, value), handed_on(*HANDS, value, HALF)):
                self.assertIs(type(made), Book)
            self.assertIs(type(handed_on(*HANDS, HALF, value)), Book)
        least = (1, 999999999999)
        self.same(load_of_hand(*HAND, least, ONE), pair_of(Fraction(999999999999, 4) + Fraction(1, 4)))


class Unchanged(Case):
    def test_equal_calls(self):
        for _ in range(2):
            self.same(one_hand(*HAND, ONE, HALF, HALF).text, one_hand(*HAND, ONE, HALF, HALF).text)
            self.same(two_hands(*HANDS, HALF).text, two_hands(*HANDS, HALF).text)
            self.same(handed_on(*HANDS, HALF, ZERO).text, handed_on(*HANDS, HALF, ZERO).text)
            self.same(loads(*HANDS, HALF, ZERO), loads(*HANDS, HALF, ZERO))
