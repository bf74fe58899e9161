"""Tables of powers: their sums, balances, and which are steady."""

from fractions import Fraction
from random import Random

from cornerdrifts.books import Book, exchanged
from cornerdrifts.errors import BadChances, BadPair, BadShare, BadTable, Loads, Loop
from cornerdrifts.makes import handed_on, loads, two_hands
from cornerdrifts.products import balance, checked_pairs, is_steady, product_of_loads, whole
from tests.checks import region_steps
from tests.samples import Case, any_values, book, chances, pair_of, random_books
from tests.test_makes import BAD_PARTS, HANDS, bad_chances, fraction, random_chances, told

ZERO, HALF, ONE = (0, 1), (1, 2), (1, 1)
THIRD, QUARTER = (1, 3), (1, 4)
CALM = ((1, 8), (1, 8), (3, 8), (3, 8), ZERO, ZERO)
TABLE = (((4, 9), THIRD, THIRD), ((4, 9), THIRD), ((4, 9), THIRD), (4, 9))
NOTHING = ((ZERO, ZERO, ZERO), (ZERO, ZERO), (ZERO, ZERO), ZERO)
ODD = (((5, 1), HALF, (2, 3)), ((1, 7), (3, 4)), ((3, 1), (1, 5)), (11, 2))
STILL = book([(0, 0, 1, 1)], [(0, 0, 1, 1)], [(0, 0, 1, 1)])
# No numbers of a table.
BAD_FACTORS = [(-1, 2), (-1, 10 ** 12), (2, 4), (0, 2), (1, 0), (1, -2), (True, 1), (1, True), 0, 1, True, None, "1/2"]
BAD_FACTORS += [[1, 2], (1,), (1, 2, 3), (HALF,), HALF + HALF, ()]
BAD_BASES = BAD_FACTORS + [ONE, (3, 2), (2, 1), (10 ** 12, 999999999999)]
BAD_PAIRS = [
    (41, 0), (0, 41), (41, 41), (10 ** 9, 0), (0, 10 ** 11), (-1, 0), (0, -1), (-1, 41), (True, 0), (0, False), [0, 0],
    (1, 2, 3), (1,), 0, 1, ("1", 2), (1, None), ((1, 2),), "(1, 2)",
]


def flat(table):
    """The numbers of a table as Fractions."""
    (c, a, b), (f, p), (g, q), h = table
    return [Fraction(*part) for part in (c, a, b, f, p, g, q, h)]


def table_of(numbers):
    c, a, b, f, p, g, q, h = told(numbers)
    return ((c, a, b), (f, p), (g, q), h)


def weight(table, x, y):
    c, a, b, f, p, g, q, h = flat(table)
    if x > 0:
        return c * a ** x * b ** y if y > 0 else f * p ** x
    return g * q ** y if y > 0 else h


def balance_of(one, table, x, y):
    """What comes to a pair from all that are near it, less its own weight."""
    coming = Fraction(0)
    for from_x in range(max(0, x - 4), x + 2):
        for from_y in range(max(0, y - 4), y + 2):
            chance = chances(region_steps(one, from_x, from_y)).get((x - from_x, y - from_y), 0)
            coming += weight(table, from_x, from_y) * chance
    return coming - weight(table, x, y)


def first_off(one, table):
    """The pair up to 5 that is off, by the greater number, then ascending."""
    off = [(x, y) for x in range(6) for y in range(6) if balance_of(one, table, x, y)]
    greatest = min((max(pair) for pair in off), default=None)
    return min((pair for pair in off if max(pair) == greatest), default=None)


def random_table(random):
    """A table, some numbers of which are 0."""
    numbers = []
    for at in range(8):
        number = Fraction(random.randint(0, 5), 6) if random.random() < 0.8 else Fraction(0)
        numbers.append(number * 7 if at in (0, 3, 5, 7) else number)
    return table_of(numbers)


def steady_pair(random):
    """A book of queues that hand on, and its table, if both loads are below 1."""
    while True:
        numbers = (*random_chances(random, 4), fraction(random), fraction(random))
        if numbers[4:] != (1, 1) and max(Fraction(*load) for load in loads(*told(numbers))) < 1:
            return handed_on(*told(numbers)), product_of_loads(*told(numbers))


def bad_tables():
    found = [list(TABLE), TABLE[:3], TABLE + (HALF,), (TABLE,), (list(TABLE[0]),) + TABLE[1:], (TABLE[1],) + TABLE[1:]]
    found += [TABLE[:1] + (TABLE[0],) + TABLE[2:], TABLE[:2] + ((HALF,),) + TABLE[3:], TABLE[:3] + ((HALF,),)]
    found += [TABLE[:2] + (list(TABLE[2]),) + TABLE[3:], ((HALF, HALF, HALF, HALF),) + TABLE[1:], (1, 2, 3, 4)]
    found += [TABLE[:1] + ((HALF, HALF, HALF),) + TABLE[2:], TABLE[::-1], ((HALF, HALF),) * 3 + (HALF,)]
    for row, at in ((0, 0), (1, 0), (2, 0)):
        found += [with_part(row, at, value) for value in BAD_FACTORS]
    for row, at in ((0, 1), (0, 2), (1, 1), (2, 1)):
        found += [with_part(row, at, value) for value in BAD_BASES]
    return found + [TABLE[:3] + (value,) for value in BAD_FACTORS]


def with_part(row, at, value):
    """The table with another value in one of its rows."""
    parts = TABLE[row]
    return (*TABLE[:row], (*parts[:at], value, *parts[at + 1:]), *TABLE[row + 1:])


class Whole(Case):
    def test_values(self):
        self.same(whole(TABLE), ONE)
        self.same(whole(NOTHING), ZERO)
        # 5 * 1 * 2, 1/7 * 3, 3 * 1/4 and 11/2.
        self.same(whole(ODD), pair_of(10 + Fraction(3, 7) + Fraction(3, 4) + Fraction(11, 2)))
        self.same(whole(table=ODD), whole(ODD))

    def test_powers_of_0(self):
        self.same(whole(((HALF, ZERO, HALF), (HALF, ZERO), (HALF, ZERO), QUARTER)), QUARTER)
        self.same(whole(((HALF, HALF, ZERO), (HALF, THIRD), (HALF, ZERO), ZERO)), QUARTER)
        self.same(whole(((HALF, HALF, THIRD), (ZERO, HALF), (THIRD, QUARTER), ZERO)), (13, 36))

    def test_it_is_the_sum_of_all_weights(self):
        random = Random(131)
        for _ in range(20):
            numbers = [Fraction(random.randint(0, 9), random.randint(1, 4)) for _ in range(8)]
            for at in (1, 2, 4, 6):
                numbers[at] = Fraction(random.randint(0, 2), 4)
            table = table_of(numbers)
            near = sum(weight(table, x, y) for x in range(30) for y in range(30))
            self.assertTrue(0 <= Fraction(*whole(table)) - near < Fraction(1, 10 ** 6))

    def test_bases_close_to_1(self):
        close = (999999999998, 999999999999)
        self.same(whole(((ONE, close, close), (ZERO, ZERO), (ZERO, ZERO), ZERO)), (999999999998 ** 2, 1))


class Balance(Case):
    def test_values(self):
        one = handed_on(*CALM)
        less = (*TABLE[:3], (1, 9))
        self.same(balance(one, less, (0, 0)), (1, 12))
        self.same(balance(one, less, (0, 1)), (-1, 24))
        self.same(balance(one, less, (1, 0)), (-1, 24))
        self.same(balance(one, less, (1, 1)), ZERO)
        self.same(balance(pair=(0, 1), table=less, book=one), (-1, 24))

    def test_at_the_corner_beside_the_sides_inside_and_far(self):
        pairs = [(0, 0), (1, 0), (0, 1), (1, 1), (4, 0), (0, 5), (2, 3), (3, 1), (40, 0), (0, 40), (40, 40), (40, 1)]
        random = Random(132)
        for one in random_books(133, 25) + [STILL, handed_on(*CALM)]:
            for table in (TABLE, ODD, NOTHING, random_table(random)):
                for x, y in pairs:
                    self.same(balance(one, table, (x, y)), pair_of(balance_of(one, table, x, y)))

    def test_powers_of_0(self):
        # All that is there waits for none; to (3, 1) half of it comes.
        one = book([(0, 0, 1, 1)], [(0, 0, 1, 1)], [(0, 0, 1, 1)], [(3, 1, 1, 2), (0, 0, 1, 2)])
        table = ((ONE, ZERO, ZERO), (ONE, ZERO), (ONE, ZERO), (7, 3))
        self.same(balance(one, table, (0, 0)), (-7, 6))
        self.same(balance(one, table, (3, 1)), (7, 6))
        self.same(balance(one, table, (1, 1)), ZERO)

    def test_a_still_book_moves_nothing(self):
        for x in range(6):
            for y in range(6):
                self.same(balance(STILL, ODD, (x, y)), ZERO)

    def test_exchanged(self):
        for one in random_books(134, 10):
            (c, a, b), first, second, h = ODD
            turned = ((c, b, a), second, first, h)
            for x, y in ((0, 0), (2, 0), (0, 3), (1, 4), (7, 2)):
                self.same(balance(exchanged(one), turned, (y, x)), balance(one, ODD, (x, y)))


class IsSteady(Case):
    def test_steady_tables(self):
        random = Random(135)
        for _ in range(25):
            one, table = steady_pair(random)
            self.same(is_steady(one, table), ("steady",))
            for x, y in ((0, 0), (0, 6), (6, 0), (7, 9), (40, 40), (40, 0), (0, 40), (3, 38)):
                self.same(balance(one, table, (x, y)), ZERO)

    def test_times_a_fraction(self):
        random = Random(136)
        for _ in range(6):
            one, table = steady_pair(random)
            for factor in (Fraction(0), Fraction(1, 3), Fraction(999999999999, 7)):
                c, a, b, f, p, g, q, h = flat(table)
                other = table_of((factor * c, a, b, factor * f, p, factor * g, q, factor * h))
                self.same(is_steady(one, other), ("steady",))

    def test_what_is_steady_for_all(self):
        for one in random_books(137, 15):
            self.same(is_steady(one, NOTHING), ("steady",))
            self.same(is_steady(one, ((ONE, ZERO, HALF), (ONE, ZERO), (ONE, ZERO), ZERO)), ("steady",))
        self.same(is_steady(STILL, ODD), ("steady",))
        self.same(is_steady(table=ODD, book=STILL), ("steady",))

    def test_the_first_pair_that_is_off(self):
        one = handed_on(*CALM)
        self.same(is_steady(one, (*TABLE[:3], (1, 9))), ("off", (0, 0)))
        still = [(0, 0, 1, 1)]
        for leap in ((1, 0), (0, 1), (1, 1)):
            self.same(is_steady(book(still, still, [(*leap, 1, 1)]), ODD), ("off", (0, 1)))
        self.same(is_steady(book(still, [(1, 0, 1, 1)], still), ODD), ("off", (1, 0)))
        self.same(is_steady(book([(1, 0, 1, 1)], still, still), ODD), ("off", (1, 1)))
        self.same(is_steady(book([(-1, 0, 1, 1)], still, still), ODD), ("off", (0, 1)))
        self.same(is_steady(book([(0, -1, 1, 1)], still, still), ODD), ("off", (1, 0)))
        self.same(is_steady(book([(-1, -1, 1, 1)], still, still), ODD), ("off", (0, 0)))

    def test_all_books(self):
        random = Random(138)
        seen = {}
        for one in random_books(139, 60):
            for _ in range(4):
                table = random_table(random)
                wanted = first_off(one, table)
                seen[wanted] = seen.get(wanted, 0) + 1
                self.same(is_steady(one, table), ("steady",) if wanted is None else ("off", wanted))
        self.assertLessEqual({None, (0, 0), (0, 1), (1, 0), (1, 1)}, set(seen))

    def test_which_pairs_are_asked(self):
        wanted = [(x, y) for greatest in range(6) for x in range(6) for y in range(6) if max(x, y) == greatest]
        self.same(checked_pairs(), wanted)
        self.assertEqual(len(wanted), 36)
        self.same(wanted[:6], [(0, 0), (0, 1), (1, 0), (1, 1), (0, 2), (1, 2)])


class ProductOfLoads(Case):
    def test_values(self):
        self.same(product_of_loads(*CALM), TABLE)
        found = product_of_loads((1, 8), (1, 8), (3, 8), (3, 8), ONE, ZERO)
        self.same(found, (((2, 9), THIRD, (2, 3)), ((2, 9), THIRD), ((2, 9), (2, 3)), (2, 9)))
        self.same(product_of_loads(q=ZERO, p=ONE, k=(3, 8), m=(3, 8), b=(1, 8), a=(1, 8)), found)

    def test_all_queues(self):
        random = Random(140)
        for _ in range(40):
            numbers = (*random_chances(random, 4), fraction(random), fraction(random))
            if numbers[4:] == (1, 1):
                continue
            told_loads = loads(*told(numbers))
            first, second = [Fraction(*load) for load in told_loads]
            if first >= 1 or second >= 1:
                self.refuses(Loads, told_loads, product_of_loads, *told(numbers))
                continue
            table = product_of_loads(*told(numbers))
            constant = (1 - first) * (1 - second)
            self.same(table, table_of((constant, first, second, constant, first, constant, second, constant)))
            self.same(whole(table), ONE)
            self.same(is_steady(handed_on(*told(numbers)), table), ("steady",))
            for x, y in ((0, 0), (3, 0), (0, 2), (4, 5)):
                self.assertEqual(weight(table, x, y), constant * first ** x * second ** y)

    def test_loads_at_1_and_above(self):
        small = Fraction(1, 10 ** 9)
        eighth = Fraction(1, 8)
        for by in (-small, Fraction(0), small):
            first = told((2 * eighth + by, eighth, 2 * eighth, 3 * eighth - by))
            second = [first[1], first[0], first[3], first[2]]
            for chances_told in (first, second):
                told_loads = loads(*chances_told, ZERO, ZERO)
                if by < 0:
                    self.same(whole(product_of_loads(*chances_told, ZERO, ZERO)), ONE)
                else:
                    self.refuses(Loads, told_loads, product_of_loads, *chances_told, ZERO, ZERO)
        self.refuses(Loads, ((3, 1), (3, 1)), product_of_loads, (3, 8), (3, 8), (1, 8), (1, 8), ZERO, ZERO)

    def test_two_hands_are_not_always_steady(self):
        one = two_hands(*CALM[:4], HALF)
        self.assertEqual(is_steady(one, TABLE)[0], "off")
        self.same(is_steady(two_hands(*CALM[:4], ZERO), TABLE), ("steady",))


class Wrong(Case):
    def test_tables(self):
        for value in any_values() + bad_tables():
            with self.subTest(value=value):
                self.refuses_it(BadTable, value, whole, value)
                self.refuses_it(BadTable, value, is_steady, STILL, value)
                self.refuses_it(BadTable, value, balance, STILL, value, (0, 0))
                self.refuses_it(BadTable, value, balance, pair=(41, 0), table=value, book=STILL)
        self.refuses(BadTable, None, whole, table=None)
        self.refuses(BadTable, 1, is_steady, table=1, book=STILL)

    def test_pairs(self):
        for value in any_values() + BAD_PAIRS:
            with self.subTest(value=value):
                self.refuses_it(BadPair, value, balance, STILL, TABLE, value)
                self.refuses_it(BadPair, value, balance, pair=value, table=NOTHING, book=STILL)

    def test_chances_shares_loop_and_loads(self):
        for values in bad_chances(4):
            for rest in ((HALF, HALF), (ONE, ONE), (None, None)):
                kept = self.raises(BadChances, product_of_loads, *values, *rest)
                self.assertTrue(all(one is other for one, other in zip(kept, values)))
        for value in any_values() + BAD_PARTS:
            for rest in (HALF, ONE, None):
                self.refuses_it(BadShare, value, product_of_loads, *HANDS, value, rest)
            self.refuses_it(BadShare, value, product_of_loads, *HANDS, ONE, value)
        self.refuses(BadShare, (3, 1), product_of_loads, *HANDS, (3, 1), (4, 1))
        # Both loads would be above 1, too.
        self.refuses(Loop, None, product_of_loads, (3, 8), (3, 8), (1, 8), (1, 8), ONE, ONE)
        self.refuses(BadShare, (5, 4), product_of_loads, (3, 8), (3, 8), (1, 8), (1, 8), ONE, (5, 4))


class Unchanged(Case):
    def test_equal_calls(self):
        one = handed_on(*CALM)
        again = Book(one.text)
        for table in (TABLE, ODD):
            self.same(is_steady(one, table), is_steady(again, table))
            self.same(balance(one, table, (1, 2)), balance(again, table, (1, 2)))
        self.same(one.text, again.text)
