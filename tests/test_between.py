"""between: bounds of mean numbers of ticks on both sides."""

from fractions import Fraction

from cornerdrifts.books import Book, exchanged
from cornerdrifts.drifts import border
from cornerdrifts.errors import BadPair, BadPaper, BadTicks
from cornerdrifts.home import home, worth
from cornerdrifts.ticks import between, lasting
from tests.checks import home_books, is_right_yes, sum_at
from tests.samples import Case, any_values, book, pair_of
from tests.test_papers import LIFT, PAPERS, exchanged_yes, with_part
from tests.test_ticks import BAD_TICKS, FALLING, FARTHEST

ZERO, HALF, ONE = (0, 1), (1, 2), (1, 1)
PAPER = (ONE, ONE, ZERO, ZERO, HALF, ZERO, HALF, 1)
# Both queues fall inside; beside first nobody comes to the second queue: its border is "first".
EDGED = book([(-1, 0, 1, 2), (0, -1, 1, 2)], [(-1, 0, 1, 1)], [(0, -1, 1, 1)], [(0, 0, 1, 1)])
# Inside x stays in the mean: its border is "x".
UPRIGHT = book([(1, -1, 1, 2), (-1, -1, 1, 2)], [(-1, 0, 1, 1)], [(0, -1, 1, 1)], [(0, 0, 1, 1)])
UPRIGHT_PAPER = (ONE, ONE, ONE, ZERO, HALF, ZERO, HALF, 1)
ON_BORDER = [("first", EDGED, PAPER), ("x", UPRIGHT, UPRIGHT_PAPER)]
BAD_PAIRS = [
    (61, 0), (0, 61), (61, 61), (FARTHEST, 0), (FARTHEST + 1, 0), (-1, 0), (0, -1), (10 ** 11, 1), (1, 2, 3), (1,),
    [1, 2], (True, 1), (1, False), ("1", 2), 5, "inside",
]


def bad_papers():
    """Values that are no right yes papers of FALLING."""
    found = [with_part(PAPER, 7, n) for n in (0, -1, True, None, ONE, "1", [1])]
    found += [with_part(PAPER, at, value) for at in range(7) for value in (1, None, (True, 1), (2, 4), (-1, 1), [1, 2])]
    found += [PAPER[:7], PAPER + (1,), list(PAPER), ("home", PAPER), (PAPER,), home(FALLING), PAPERS[1][1]]
    found += [("along", "second", ZERO, ZERO, HALF), ("inner", HALF, HALF), (ZERO,) + PAPER[1:], 1, 0]
    # w * w is not below u * v.
    return found + [with_part(PAPER, 2, (-1, 1))]


class Values(Case):
    def test_above_the_corner(self):
        self.same(between(FALLING, (2, 1), PAPER, 0), (ZERO, (5, 1)))
        self.same(between(FALLING, (2, 1), PAPER, 5), ((9, 4), (5, 1)))
        self.same(between(FALLING, (60, 60), PAPER, 8), ((8, 1), (7200, 1)))
        self.same(between(ticks=5, paper=PAPER, pair=(2, 1), book=FALLING), ((9, 4), (5, 1)))

    def test_in_the_corner(self):
        for pair in ((0, 0), (1, 0), (0, 1)):
            for ticks in (0, 1, 8):
                self.same(between(FALLING, pair, PAPER, ticks), (ZERO, ZERO))
        # The paper of the same numbers is right with each greater corner, too.
        for n, low in ((3, 2), (118, 2), (119, 1)):
            self.same(between(FALLING, (2, 1), with_part(PAPER, 7, n), 5), (ZERO, ZERO))
            self.same(between(FALLING, (60, 60), with_part(PAPER, 7, n), 2), ((low, 1), (7200, 1)))
        for n in (120, 121, FARTHEST, FARTHEST + 1, 10 ** 12, 10 ** 40):
            self.same(between(FALLING, (60, 60), with_part(PAPER, 7, n), 2), (ZERO, ZERO))

    def test_powers(self):
        one, paper = LIFT, PAPERS[1][1]
        for pair in ((7, 0), (0, 9), (4, 4), (60, 60), (60, 0), (0, 60), (3, 3), (6, 0)):
            for ticks in (0, 1, 4):
                found = between(one, pair, paper, ticks)
                if sum(pair) <= paper[7]:
                    self.same(found, (ZERO, ZERO))
                else:
                    self.same(found, (lasting(one, pair, paper[7], ticks), pair_of(sum_at(paper, *pair))))
                self.same(between(exchanged(one), pair[::-1], exchanged_yes(paper), ticks), found)

    def test_books_of_all_kinds(self):
        for one in home_books(91, 3):
            paper = home(one)[1]
            for pair in ((0, 0), (1, 1), (13, 40), (60, 60), (60, 0), (0, 60)):
                for ticks in (0, 1, 3):
                    low, high = between(one, pair, paper, ticks)
                    if sum(pair) <= paper[7]:
                        self.same((low, high), (ZERO, ZERO))
                        continue
                    self.same(low, lasting(one, pair, paper[7], ticks))
                    self.same(high, worth(one, paper, pair))
                    self.assertLessEqual(Fraction(*low), Fraction(*high))

    def test_low_never_passes_high(self):
        for one, paper in PAPERS + [(FALLING, PAPER)]:
            for x in range(8):
                for y in range(8):
                    told = [between(one, (x, y), paper, ticks) for ticks in range(9)]
                    lows = [Fraction(*low) for low, _ in told]
                    self.assertEqual(lows, sorted(lows))
                    self.assertLessEqual(lows[-1], Fraction(*told[0][1]))
                    self.assertEqual({high for _, high in told}, {told[0][1]})

    def test_books_on_a_border(self):
        for word, one, paper in ON_BORDER:
            self.assertEqual(border(one), word)
            self.assertTrue(is_right_yes(one, paper))
            for x in range(5):
                for y in range(5):
                    low, high = between(one, (x, y), paper, 6)
                    if x + y <= paper[7]:
                        self.same((low, high), (ZERO, ZERO))
                    else:
                        self.same(low, lasting(one, (x, y), paper[7], 6))
                        self.same(high, pair_of(sum_at(paper, x, y)))
            self.refuses(BadPaper, with_part(paper, 7, 0), between, one, (2, 2), with_part(paper, 7, 0), 1)
        self.same(between(UPRIGHT, (2, 2), UPRIGHT_PAPER, 8), (lasting(UPRIGHT, (2, 2), 1, 8), (16, 1)))


class Wrong(Case):
    def test_pairs(self):
        for value in any_values() + BAD_PAIRS:
            for paper in (PAPER, None):
                for ticks in (1, 9):
                    with self.subTest(value=value):
                        self.refuses_it(BadPair, value, between, FALLING, value, paper, ticks)
                        self.refuses_it(BadPair, value, between, ticks=ticks, paper=paper, pair=value, book=EDGED)

    def test_papers(self):
        for value in any_values() + bad_papers():
            for pair in ((2, 1), (0, 0), (60, 60)):
                for ticks in (1, 9, None):
                    with self.subTest(value=value):
                        self.refuses_it(BadPaper, value, between, FALLING, pair, value, ticks)
            self.refuses_it(BadPaper, value, between, ticks=0, paper=value, pair=(2, 1), book=FALLING)

    def test_papers_of_other_books(self):
        climb = Book(FALLING.text.replace("step 0 -1 1/2\nstep 1 -1 1/2", "step 0 1 1/2\nstep 1 0 1/2"))
        self.refuses_it(BadPaper, PAPER, between, climb, (2, 1), PAPER, 1)
        self.refuses_it(BadPaper, PAPER, between, UPRIGHT, (0, 0), PAPER, 1)

    def test_ticks(self):
        for value in any_values() + BAD_TICKS:
            for pair in ((2, 1), (0, 0)):
                with self.subTest(value=value):
                    self.refuses_it(BadTicks, value, between, FALLING, pair, PAPER, value)
                    self.refuses_it(BadTicks, value, between, ticks=value, paper=PAPER, pair=pair, book=EDGED)
