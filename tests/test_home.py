"""home: whether a walk comes home, and that its paper is right by the definition's own sums."""

from fractions import Fraction

from cornerdrifts.books import Book, exchanged, slowed
from cornerdrifts.drifts import does_come_home
from cornerdrifts.errors import Border
from cornerdrifts.home import home, shows_home
from tests.checks import KINDS, change_at, comes_home, height_at, home_books, is_plain, is_right_no, is_right_yes, kind
from tests.checks import away_books, plain_books, rise_at, sum_at, turned_books
from tests.samples import Case, book, pair_of, queue, random_books, steered_book

TINY = Fraction(1, 10 ** 12)


def bounds(n):
    """Lengths near a corner and far from it."""
    return sorted({0, 1, 2, 3, n // 2, n - 1, n, n + 1})


def outside(n):
    """Pairs just outside of the corner n, and some that are farther away."""
    found = []
    for many in (n + 1, n + 2, n + 3, 2 * n + 7, 1000 * n + 10 ** 9):
        found += [(x, many - x) for x in bounds(n) if x <= many] + [(many - y, y) for y in bounds(n) if y <= many]
    return sorted(set(found))


class HomeCase(Case):
    def right(self, one):
        """What home tells of a plain book, if it is right."""
        found = home(one)
        self.assertIs(type(found), tuple)
        self.assertEqual(len(found), 2)
        word, paper = found
        self.same(word, "home" if comes_home(one) else "away")
        self.assertTrue(is_right_yes(one, paper) if word == "home" else is_right_no(one, paper), (one.text, paper))
        self.assertIs(shows_home(one, found), True)
        return found


class Home(HomeCase):
    def test_signs(self):
        low, high = Fraction(-1, 10), Fraction(1, 10)
        few = Fraction(1, 20)
        for inside, first, second, wanted in (
            ((low, low), (low, high), (high, low), "home"),
            ((low, low), (high, few), (high, low), "away"),
            ((low, low), (low, high), (few, high), "away"),
            ((low, low), (high, few), (few, high), "away"),
            ((low, high), (low, high), (few, low), "home"),
            ((low, high), (high, high), (few, low), "home"),
            ((low, high), (high, few), (few, low), "home"),
            ((low, high), (low, high), (high, -few), "away"),
            ((low, high), (low, high), (high, few), "away"),
            ((high, low), (low, few), (high, low), "home"),
            ((high, low), (low, few), (high, high), "home"),
            ((high, low), (-few, high), (high, low), "away"),
            ((high, low), (few, high), (high, low), "away"),
            ((high, high), (low, few), (few, low), "away"),
            ((high, high), (high, high), (high, high), "away"),
        ):
            for long in (False, True):
                one = steered_book(inside, first, second, long)
                with self.subTest(inside=inside, first=first, second=second, long=long):
                    self.assertEqual(self.right(one)[0], wanted)
                    self.assertEqual(self.right(exchanged(one))[0], wanted)
                    self.assertEqual(self.right(slowed(one, (1, 7)))[0], wanted)

    def test_all_kinds_of_books(self):
        seen = set()
        for one in plain_books(31, 12):
            seen.add(kind(one))
            self.right(one)
        self.assertEqual(seen, set(KINDS))

    def test_random_books(self):
        for one in random_books(32, 400):
            if is_plain(one):
                self.same(self.right(one)[0] == "home", does_come_home(one))

    def test_exchanged_and_slowed(self):
        for one in plain_books(33, 3):
            self.same(self.right(exchanged(one))[0], home(one)[0])
            if max(len(steps) for steps in (one.inside, one.first, one.second, one.none)) < 12:
                for share in ((1, 2), (1, 10 ** 11), (999999999998, 999999999999)):
                    self.same(self.right(slowed(one, share))[0], home(one)[0])

    def test_by_name(self):
        self.same(home(book=queue()), home(queue()))

    def test_equal_calls(self):
        for one in plain_books(34, 2):
            ahead = (one.text, one.inside, one.first, one.second, one.none)
            found = home(one)
            self.same((one.text, one.inside, one.first, one.second, one.none), ahead)
            self.same(home(Book(one.text)), found)
            self.same(home(one), found)


class Hard(HomeCase):
    def test_turns_close_to_zero(self):
        for size in (Fraction(1, 1000), TINY, TINY ** 3, TINY ** 9):
            for one in turned_books(size):
                self.right(one)
                self.right(exchanged(one))

    def test_drifts_close_to_zero(self):
        some = Fraction(1, 9)
        for size in (TINY, TINY ** 2, TINY ** 8):
            for long in (False, True):
                for x in (-size, size, -some, some):
                    for y in (-size, size, -some, some):
                        for first, second in (
                            ((-some, size), (size, -some)), ((some, size), (some, -some)),
                            ((-size, some), (some, size)), ((size, some), (size, -size)),
                        ):
                            one = steered_book((x, y), first, second, long)
                            if is_plain(one):
                                self.right(one)

    def test_chances_of_large_bottoms(self):
        first, second = 999999999989, 999999999961
        rest = 1 - Fraction(1, first) - Fraction(1, second)
        steps = [(-1, -1, 1, first), (-1, 3, 1, second), (3, -1, *pair_of(rest / 8)), (-1, 0, *pair_of(rest * 7 / 8))]
        most, almost = (first - 1, first), (second - 1, second)
        for one in (
            book(steps, [(0, 1, 1, first), (-1, 0, *most)], [(3, 0, 1, second), (0, -1, *almost)]),
            book(steps, [(0, 1, 1, first), (3, 0, *most)], [(3, 0, 1, second), (0, 3, *almost)]),
            book(steps, [(3, 3, 1, first), (0, 0, *most)], [(3, 3, 1, second), (0, 0, *almost)]),
        ):
            self.assertTrue(is_plain(one))
            self.right(one)
            self.right(exchanged(one))

    def test_twelve_long_steps(self):
        steps = [(i, j) for i in (-1, 1, 2, 3) for j in (-1, 2, 3)]
        for weights in ((200, 1, 1, 1, 2, 1, 1, 1, 1, 1, 1, 1), (1, 1, 200, 1, 1, 1, 1, 1, 1, 1, 1, 1), range(1, 13)):
            inside = [(i, j, weight, sum(weights)) for (i, j), weight in zip(steps, weights)]
            for top in (1, 500, 999):
                first = [(3, 1, top, 1000), (-1, 3, 1000 - top, 1000)]
                second = [(3, 3, 1, 100), (1, -1, 99, 100)]
                one = book(inside, first, second)
                self.assertTrue(is_plain(one))
                self.right(one)
                self.right(exchanged(one))

    def test_slowed_again_and_again(self):
        for one in turned_books(Fraction(1, 1000)):
            for _ in range(20):
                one = slowed(one, (1, 999999999989))
            self.right(one)


class Borders(Case):
    def test_each_word(self):
        some = Fraction(1, 8)
        none = Fraction(0)
        for word, one in (
            ("x", steered_book((none, none), (none, none), (none, none))),
            ("y", steered_book((-some, none), (none, none), (none, none))),
            ("first", steered_book((-some, -some), (some, none), (none, none))),
            ("second", steered_book((-some, -some), (some, some), (none, none))),
            ("first turn", steered_book((-some, -some), (some, some), (some, some))),
            ("second turn", steered_book((-some, -some), (-some, some), (some, some))),
        ):
            self.refuses(Border, word, home, one)
            self.refuses(Border, word, home, book=one)
            for value in (("home", ()), ("away", ("inner", (1, 2), (1, 2))), None):
                self.refuses(Border, word, shows_home, one, value)
            self.refuses(Border, word, shows_home, value=0, book=one)


class FallingSums(Case):
    def test_just_outside_of_the_corner_and_far(self):
        for one in home_books(35, 5) + [one for one in turned_books(Fraction(1, 500)) if comes_home(one)]:
            paper = home(one)[1]
            n = paper[7]
            for x, y in outside(n):
                # Powers of a fraction at far lengths are numbers of too many figures.
                if (paper[3] == (0, 1) or y < 2000) and (paper[5] == (0, 1) or x < 2000):
                    self.assertLessEqual(change_at(paper, one, x, y), -1, (one.text, paper, x, y))

    def test_the_sum_is_never_below_zero(self):
        for one in home_books(36, 5):
            paper = home(one)[1]
            for x in range(25):
                for y in range(25):
                    self.assertGreaterEqual(sum_at(paper, x, y), 0)


class Heights(Case):
    def test_never_falls_where_the_long_queue_waits(self):
        seen = set()
        for one in away_books(37, 8) + [one for one in turned_books(Fraction(1, 500)) if not comes_home(one)]:
            paper = home(one)[1]
            if paper[0] == "inner":
                continue
            seen.add((paper[1], paper[2] == (0, 1), paper[3] == (0, 1)))
            for short in range(30):
                for long in (1, 2, 3, 4, 50, 10 ** 6):
                    x, y = (long, short) if paper[1] == "first" else (short, long)
                    self.assertGreaterEqual(rise_at(paper, one, x, y), 0)
                    self.assertLessEqual(height_at(paper, x, y), x + y + Fraction(*paper[3]))
        # Along both sides: with b, with c, and with none of them.
        self.assertEqual(len(seen), 6)

    def test_inner_powers_never_rise(self):
        for one in away_books(38, 4):
            word, *bases = home(one)[1]
            if word == "inner":
                r, s = [Fraction(*base) for base in bases]
                for x in (1, 2, 5):
                    for y in (1, 3):
                        ahead = r ** x + s ** y
                        behind = sum(Fraction(*p) * (r ** (x + i) + s ** (y + j)) for i, j, p in one.inside)
                        self.assertLessEqual(behind, ahead)
