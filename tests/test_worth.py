"""worth and mean_change: the sums of right yes papers, and how they fall."""

from fractions import Fraction

from cornerdrifts.books import Book, exchanged
from cornerdrifts.errors import BadPair, BadPaper, Border
from cornerdrifts.home import home, mean_change, worth
from tests.checks import away_books, change_at, home_books, sum_at
from tests.samples import Case, any_but, any_values, pair_of, steered_book
from tests.test_papers import CLIMB, HALF, LIFT, ONE, PAIR, PAPERS, ZERO, exchanged_yes, with_part

# No pairs of lengths up to 60.
BAD_PAIRS = [
    (-1, 0), (0, -1), (61, 0), (0, 61), (61, 61), (10 ** 9, 0), (0, 10 ** 11), (-1, 61), (1, 2, 3), (1,), (), [1, 2],
    (True, 1), (1, False), ("1", 2), (1, None), ((1, 2), 3), 1, None, "inside",
]
FUNCTIONS = (worth, mean_change)


def pairs():
    """Pairs of all regions, near and far."""
    return [(x, y) for x in (0, 1, 2, 5, 60) for y in (0, 1, 3, 17, 60)]


class Values(Case):
    def test_examples(self):
        one, paper = PAPERS[0]
        self.same(worth(one, paper, (2, 2)), (24, 1))
        self.same(worth(one, paper, (0, 0)), ZERO)
        self.same(worth(one, paper, (60, 60)), (21600, 1))
        self.same([mean_change(one, paper, pair) for pair in ((2, 2), (3, 0), (0, 0))], [(-1, 1), (-6, 1), ONE])

    def test_powers_of_both_kinds(self):
        # In LIFT the sum is 4 x x + y y + 4 x y + 32 x / 2 ** y.
        one, paper = PAPERS[1]
        for x, y in pairs():
            wanted = 4 * x * x + y * y + 4 * x * y + Fraction(32 * x, 2 ** y)
            self.same(worth(one, paper, (x, y)), pair_of(wanted))
            self.same(worth(exchanged(one), exchanged_yes(paper), (y, x)), pair_of(wanted))
        # Beside first both queues grow by 1, or nothing happens, with 1/2 each.
        ahead = 4 * 9 + 32 * 3
        behind = 4 * 16 + 1 + 16 + 16 * 4
        self.same(mean_change(one, paper, (3, 0)), pair_of(Fraction(behind - ahead, 2)))

    def test_sums_of_the_papers_of_home(self):
        for one in home_books(51, 4):
            paper = home(one)[1]
            for x, y in pairs():
                self.same(worth(one, paper, (x, y)), pair_of(sum_at(paper, x, y)))
                self.same(mean_change(one, paper, (x, y)), pair_of(change_at(paper, one, x, y)))

    def test_falls_outside_of_the_corner(self):
        for one, paper in PAPERS:
            for x in range(12):
                for y in range(12):
                    change = Fraction(*mean_change(one, paper, (x, y)))
                    self.assertEqual(change, change_at(paper, one, x, y))
                    if x + y > paper[7]:
                        self.assertLessEqual(change, -1)

    def test_papers_that_others_made(self):
        one = PAIR
        paper = ((7, 2), (4, 1), (-1, 3), ZERO, (2, 3), ZERO, (1, 9), 10 ** 6)
        for x, y in pairs():
            self.same(worth(one, paper, (x, y)), pair_of(sum_at(paper, x, y)))
            self.same(mean_change(one, paper, (x, y)), pair_of(change_at(paper, one, x, y)))

    def test_the_bound_of_ticks(self):
        # From (4, 4) the walk is at most at the corner 3 behind a mean number of ticks that is at most the sum.
        one, paper = PAPERS[0]
        bound = Fraction(*worth(one, paper, (4, 4)))
        chances, ticks = {(4, 4): Fraction(1)}, Fraction(0)
        for _ in range(25):
            ticks += sum(chances.values())
            behind = {}
            for (x, y), chance in chances.items():
                for i, j, step in (one.inside if x and y else one.first if x else one.second):
                    pair = (x + i, y + j)
                    if sum(pair) > paper[7]:
                        behind[pair] = behind.get(pair, 0) + chance * Fraction(*step)
            chances = behind
        self.assertLess(ticks, bound)

    def test_by_name(self):
        one, paper = PAPERS[1]
        self.same(worth(pair=(2, 3), paper=paper, book=one), worth(one, paper, (2, 3)))
        self.same(mean_change(pair=(2, 3), paper=paper, book=one), mean_change(one, paper, (2, 3)))

    def test_nothing_is_changed(self):
        for one, paper in PAPERS:
            again = Book(one.text)
            for call in FUNCTIONS:
                found = call(one, paper, (5, 0))
                self.same(call(again, tuple(list(paper)), (5, 0)), found)
                self.same(call(one, paper, (5, 0)), found)
            self.same((one.inside, one.first, one.second), (again.inside, again.first, again.second))


class Wrong(Case):
    def test_pairs(self):
        for one, paper in PAPERS:
            for value in any_but((1, 2), (1, 1)) + BAD_PAIRS:
                for call in FUNCTIONS:
                    with self.subTest(value=value):
                        self.refuses_it(BadPair, value, call, one, paper, value)

    def test_pairs_up_to_sixty(self):
        for one, paper in PAPERS:
            for pair in ((60, 60), (0, 60), (60, 0), (59, 60)):
                for call in FUNCTIONS:
                    call(one, paper, pair)

    def test_papers(self):
        for one, paper in PAPERS:
            values = [with_part(paper, 7, n) for n in (paper[7] - 1, 0, True, (9, 1), None)]
            values += [with_part(paper, 0, ZERO), with_part(paper, 4, ONE), with_part(paper, 6, 1), list(paper)]
            values += [paper[:7], (paper,), ("home", paper), ("inner", HALF, HALF)]
            values += [("along", "second", ONE, ZERO, HALF)]
            for value in values + any_values():
                for call in FUNCTIONS:
                    with self.subTest(value=value):
                        self.refuses_it(BadPaper, value, call, one, value, (1, 1))
                        self.refuses_it(BadPaper, value, call, pair=(1, 1), paper=value, book=one)

    def test_papers_of_books_that_do_not_come_home(self):
        for one in away_books(52, 1) + [CLIMB]:
            for _, paper in PAPERS:
                for call in FUNCTIONS:
                    self.refuses_it(BadPaper, paper, call, one, paper, (1, 1))
            paper = home(one)[1]
            self.refuses_it(BadPaper, paper, worth, one, paper, (1, 1))
        self.refuses_it(BadPaper, PAPERS[0][1], worth, LIFT, PAPERS[0][1], (1, 1))

    def test_the_paper_comes_ahead_of_the_pair(self):
        one, paper = PAPERS[0]
        bad = with_part(paper, 7, 2)
        for pair in ((61, 0), None, [1, 2]):
            for call in FUNCTIONS:
                self.refuses_it(BadPaper, bad, call, one, bad, pair)
                self.refuses_it(BadPair, pair, call, one, paper, pair)

    def test_the_border_comes_first(self):
        some = Fraction(1, 8)
        # Its turns are not 0, and it has right yes papers, but the drift of first has no y.
        one = steered_book((-some, -some), (-some, Fraction(0)), (some, -some))
        paper = ((4, 1), (4, 1), ZERO, ZERO, HALF, ZERO, HALF, 100)
        for call in FUNCTIONS:
            for told in (paper, None, with_part(paper, 7, 0)):
                for pair in ((1, 1), (61, 0), None):
                    self.refuses(Border, "first", call, one, told, pair)
            self.refuses(Border, "first", call, pair=(0, 0), paper=paper, book=one)
