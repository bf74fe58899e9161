"""What section 3 of the document promises over the whole program: its parts tell the same."""

from fractions import Fraction
from random import Random

from cornerdrifts.bench import Bench
from cornerdrifts.books import REGIONS, exchanged, slowed
from cornerdrifts.changes import home_amounts, moved
from cornerdrifts.desk import Desk
from cornerdrifts.drifts import border, does_come_home, turns
from cornerdrifts.errors import Away, Border
from cornerdrifts.home import home, mean_change, shows_home
from cornerdrifts.journals import journal, read_journal
from cornerdrifts.makes import handed_on, load_of_hand, loads, one_hand
from cornerdrifts.products import balance, is_steady, product_of_loads
from cornerdrifts.sides import goes, pace, shares
from cornerdrifts.ticks import after, between, lasting
from cornerdrifts.ways import at_time, legs, time_home
from tests.benches import random_deed, refusal
from tests.checks import plain_books
from tests.samples import Case, pair_of, random_books
from tests.test_changes import lies_in, moves
from tests.test_makes import fraction, random_chances, told

ZERO, HALF, ONE = (0, 1), (1, 2), (1, 1)
PLACES = [(ONE, ZERO), (ZERO, ONE), ((2, 1), (1, 3)), ((1, 3), (2, 1)), ((5, 1), (5, 1))]


def ends(one, place):
    """Whether the far way from a place ends, as legs and time_home tell."""
    try:
        time_home(one, place)
    except Away as error:
        assert error.value == goes(one)
        return False
    return True


class HomeOrAway(Case):
    def test_all_parts_tell_the_same(self):
        for one in plain_books(191, 5):
            comes = does_come_home(one)
            word, paper = home(one)
            self.same(word, "home" if comes else "away")
            self.assertIs(shows_home(one, (word, paper)), True)
            self.assertIs(shows_home(one, ("away" if comes else "home", paper)), False)
            self.same(Bench(one.text).told, word)
            desk = Desk("bench\n" + one.text)
            self.same((desk.say("told"), desk.say("border")), (word, "plain"))
            self.assertEqual(goes(one) == ("home",), comes)
            self.assertEqual(desk.say("goes") == "home", comes)
            self.assertEqual(all(ends(one, place) for place in PLACES), comes)
            for each in (exchanged(one), slowed(one, (1, 3)) if len(one.inside) < 12 else one):
                self.assertIs(does_come_home(each), comes)

    def test_books_on_a_border(self):
        seen = set()
        for one in random_books(192, 150):
            word = border(one)
            if word is None:
                continue
            seen.add(word)
            for call, *rest in (
                (does_come_home,), (home,), (shows_home, None), (goes,), (pace, "first"), (legs, PLACES[0]),
                (time_home, PLACES[0]), (at_time, PLACES[0], ONE),
            ):
                self.refuses(Border, word, call, one, *rest)
            self.same(Bench(one.text).told, "border")
        self.assertLessEqual({"x", "y", "first", "second"}, seen)


class SumsAndTicks(Case):
    def test_sums_fall_and_bound_the_mean_number_of_ticks(self):
        for one in plain_books(193, 3):
            word, paper = home(one)
            if word != "home":
                continue
            n = paper[7]
            pairs = [(n + 1 - x, x) for x in (0, 1, n, n + 1) if 0 <= x <= n + 1 <= 60] + [(60, 60), (60, 0), (0, 60)]
            for pair in pairs:
                if sum(pair) <= n:
                    continue
                self.assertLessEqual(Fraction(*mean_change(one, paper, pair)), -1)
                low, high = between(one, pair, paper, 3)
                self.same(low, lasting(one, pair, n, 3))
                self.assertLessEqual(Fraction(*low), Fraction(*high))

    def test_chances_add_up(self):
        for one in random_books(194, 15):
            for pair in ((0, 0), (2, 0), (0, 1), (4, 4)):
                self.assertEqual(sum(Fraction(*chance) for _, chance in after(one, pair, 3)), 1)


class SidesAndWays(Case):
    def test_paces(self):
        for one in plain_books(195, 4):
            first_turn, second_turn = turns(one)
            for side, turn, place in (("first", first_turn, (ONE, ZERO)), ("second", second_turn, (ZERO, ONE))):
                leg = legs(one, place)[0]
                speed = leg[2] if side == "first" else leg[3]
                short = leg[3] if side == "first" else leg[2]
                if short == ZERO:
                    self.same(speed, pace(one, side))
                    self.assertEqual(speed[0] < 0, turn[0] < 0)
                    told_shares = [Fraction(*share) for share in shares(one, side, 30)]
                    self.assertTrue(min(told_shares) >= 0 and sum(told_shares) <= 1)


class Amounts(Case):
    def test_the_amounts_of_moved_books(self):
        random = Random(196)
        for one in random_books(197, 40):
            for region, step, other in moves(one, random, 2):
                found = home_amounts(one, region, step, other)
                whole = [Fraction(*chance) for i, j, chance in getattr(one, region) if (i, j) == step][0]
                for at in range(4):
                    amount = whole * at / 3
                    bench = Bench(one.text)
                    bench.put(region, step, other, pair_of(amount))
                    self.assertEqual(bench.book, moved(one, region, step, other, pair_of(amount)))
                    self.assertEqual(bench.told == "home", lies_in(found, amount))

    def test_loads(self):
        random = Random(198)
        seen = set()
        for _ in range(60):
            a, b, m = told(random_chances(random, 3))
            one = one_hand(a, b, m, (2, 3), (3, 4), (4, 7))
            if border(one) is None:
                load = Fraction(*load_of_hand(a, b, m, (2, 3), (3, 4)))
                seen.add(load < 1)
                self.same(Bench(one.text).told, "home" if load < 1 else "away")
            numbers = told((*random_chances(random, 4), fraction(random), Fraction(1, 2)))
            one = handed_on(*numbers)
            if border(one) is None:
                first, second = [Fraction(*load) for load in loads(*numbers)]
                self.same(home(one)[0], "home" if first < 1 and second < 1 else "away")
        self.assertEqual(seen, {True, False})


class Steady(Case):
    def test_told_by_balances(self):
        random = Random(199)
        many = 0
        while many < 8:
            numbers = told((*random_chances(random, 4), fraction(random), Fraction(1, 3)))
            if max(Fraction(*load) for load in loads(*numbers)) >= 1:
                continue
            many += 1
            one, table = handed_on(*numbers), product_of_loads(*numbers)
            self.same(is_steady(one, table), ("steady",))
            for pair in ((0, 0), (6, 0), (0, 17), (9, 8), (40, 40)):
                self.same(balance(one, table, pair), ZERO)
            for other in random_books(200 + many, 4):
                found = is_steady(other, table)
                if found != ("steady",):
                    self.assertNotEqual(balance(other, table, found[1]), ZERO)


class DeedsOfAnyKind(Case):
    def test_undone_tried_and_read_back(self):
        random = Random(210)
        for one in random_books(211, 20):
            bench = Bench(one.text)
            for _ in range(8):
                refusal(getattr(bench, "undo"))
                deed = random_deed(random, bench.book)
                was = journal(bench)
                bench.tried(lambda held: refusal(getattr(held, deed[0]), *deed[1:]))
                self.same(journal(bench), was)
                if refusal(getattr(bench, deed[0]), *deed[1:]) is None:
                    self.assertNotEqual(journal(bench), was)
                    bench.undo()
                    self.same(journal(bench), was)
                    bench.redo()
                else:
                    self.same(journal(bench), was)
                self.assertEqual(read_journal(journal(bench)), bench)
                for region in REGIONS:
                    self.assertEqual(sum(Fraction(*chance) for _, _, chance in getattr(bench.book, region)), 1)
