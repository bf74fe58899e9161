"""shows_home: which papers are right, whoever made them."""

from fractions import Fraction
from random import Random

from cornerdrifts.books import Book, exchanged
from cornerdrifts.home import home, shows_home
from tests.checks import away_books, comes_home, home_books, is_right_no, is_right_yes, plain_books
from tests.samples import Case, any_but, any_values, book, pair_of, steered_book

ZERO, HALF, ONE = (0, 1), (1, 2), (1, 1)
SMALL = Fraction(1, 10 ** 12)

# The books of the examples in section 6 of the document.
INSIDE = ["book", "inside", "step 1 0 1/6", "step 0 1 1/6", "step -1 0 1/3", "step 0 -1 1/3"]
FIRST = ["first", "step 1 0 1/6", "step 0 1 1/6", "step -1 0 2/3"]
NONE = ["none", "step 1 0 1/6", "step 0 1 1/6", "step 0 0 2/3"]
ENDS = ["second", "step 1 0 1/6", "step 0 1 1/6", "step 0 -1 2/3"] + NONE
PAIR = Book("\n".join(INSIDE + FIRST + ENDS))
CLIMB = Book(PAIR.text.replace("step 0 1 1/6\nstep 0 -1 2/3", "step 0 1 2/3\nstep 0 -1 1/6"))
GROWING = ["book", "inside", "step 1 0 1/3", "step 0 1 1/3", "step -1 0 1/6", "step 0 -1 1/6"]
GROW = Book("\n".join(GROWING + FIRST + ENDS))
TOP = ["book", "inside", "step -1 1 1/2", "step 0 0 1/2", "first", "step 1 1 1/2", "step 0 0 1/2"]
LIFT = Book("\n".join(TOP + ["second", "step 1 0 1/8", "step 0 -1 7/8", "none", "step 0 0 1"]))
# Three examples of yes papers and their books.
PAPERS = [
    (PAIR, ((3, 1), (3, 1), ZERO, ZERO, HALF, ZERO, HALF, 3)),
    (LIFT, ((4, 1), (1, 1), (2, 1), (32, 1), HALF, ZERO, HALF, 6)),
    (exchanged(LIFT), ((1, 1), (4, 1), (2, 1), ZERO, HALF, (32, 1), HALF, 6)),
]
# The drift beside second is (1/16, -1/8): c is needed there.
SINKING = steered_book(
    (Fraction(-1, 16), Fraction(1, 6)), (Fraction(1, 8), Fraction(1, 8)), (Fraction(1, 16), Fraction(-1, 8)),
)


def exchanged_no(paper):
    """A no paper of the exchanged book."""
    if paper[0] == "inner":
        return ("inner", paper[2], paper[1])
    return ("along", "first" if paper[1] == "second" else "second", *paper[2:])


def exchanged_yes(paper):
    u, v, w, c, r, d, s, n = paper
    return (v, u, w, d, s, c, r, n)


def with_part(values, at, part):
    return (*values[:at], part, *values[at + 1:])


class Shown(Case):
    def shows(self, one, paper, wanted):
        """A yes paper is shown right or not, as wanted; also of the exchanged book, and by the definition."""
        with self.subTest(paper=paper):
            self.assertEqual(is_right_yes(one, paper), wanted)
            self.assertIs(shows_home(one, ("home", paper)), wanted)
            self.assertIs(shows_home(exchanged(one), ("home", exchanged_yes(paper))), wanted)
            self.assertIs(shows_home(one, ("away", paper)), False)

    def shows_away(self, one, paper, wanted):
        with self.subTest(paper=paper):
            self.assertEqual(is_right_no(one, paper), wanted)
            self.assertIs(shows_home(one, ("away", paper)), wanted)
            self.assertIs(shows_home(exchanged(one), ("away", exchanged_no(paper))), wanted)
            self.assertIs(shows_home(one, ("home", paper)), False)


class YesPapers(Shown):
    def test_examples_and_corners(self):
        for one, paper in PAPERS:
            n = paper[7]
            for corner in (n, n + 1, n + 10 ** 11, 10 ** 900):
                self.shows(one, with_part(paper, 7, corner), True)
            for corner in (n - 1, 1, 0, -1, -n, -10 ** 11):
                self.shows(one, with_part(paper, 7, corner), False)

    def test_a_corner_is_from_one_on(self):
        # The sum falls out of 0, too: a is -100, b is -80, k is 10; a', b', k', k'' are -100, -19, 10, 10.
        one = book([(-1, 1, 1, 1)], [(-1, 1, 1, 1)], [(1, -1, 1, 100), (0, -1, 99, 100)])
        shape = ((100, 1), (10, 1), (50, 1), ZERO, HALF, ZERO, HALF)
        for n, wanted in ((2, True), (1, True), (0, False), (-1, False)):
            self.shows(one, (*shape, n), wanted)

    def test_what_powers_add_inside(self):
        # Inside m(i r^j) is 1/2 for r = 1/2, so that c r times it, 10, is in k.
        one = book(
            [(3, -1, 1, 8), (-1, 1, 1, 2), (0, 0, 3, 8)], [(1, 1, 1, 2), (0, 0, 1, 2)], [(1, -1, 1, 8), (0, -1, 7, 8)],
        )
        # With u = 4 the end beside second asks for more, with u = 25/8 that beside first.
        for u, least in (((4, 1), 251), ((25, 8), 462)):
            for n in range(least - 3, least + 3):
                paper = (u, (1, 4), ONE, (40, 1), HALF, ZERO, HALF, n)
                self.shows(one, paper, is_right_yes(one, paper))
                self.assertEqual(is_right_yes(one, paper), n >= least)

    def test_signs_turned(self):
        for one, paper in PAPERS:
            for at in range(7):
                top, bottom = paper[at]
                if top:
                    self.assertIs(shows_home(one, ("home", with_part(paper, at, (-top, bottom)))), False)

    def test_no_weights_of_squares(self):
        for one, paper in PAPERS:
            for at in (0, 1):
                for part in (ZERO, (-1, 10 ** 12)):
                    self.shows(one, with_part(paper, at, part), False)

    def test_c_and_d_are_not_below_zero(self):
        for one, paper in PAPERS:
            for at in (3, 5):
                self.shows(one, with_part(paper, at, (-1, 10 ** 12)), False)

    def test_bases_even_where_they_do_not_matter(self):
        one, paper = PAPERS[0]
        for at in (4, 6):
            for base, wanted in (
                ((1, 10 ** 11), True), ((10 ** 11 - 1, 10 ** 11), True), (ZERO, False), (ONE, False), ((3, 2), False),
                ((-1, 2), False), ((2, 1), False),
            ):
                self.shows(one, with_part(paper, at, base), wanted)

    def test_w_and_the_product_of_u_and_v(self):
        # Both queues fall inside by 1/8, and beside their sides by almost as much; sums with w close to -1 are right.
        steady = Fraction(1, 8)
        one = steered_book((-steady, -steady), (-steady, SMALL), (SMALL, -steady))
        for w, wanted in (
            (-1 + Fraction(1, 100), True), (-1 + SMALL, True), (Fraction(-1), False), (-1 - SMALL, False),
            (Fraction(-2), False), (Fraction(0), True), (Fraction(7), True), (Fraction(10 ** 12), False),
        ):
            self.shows(one, (ONE, ONE, pair_of(w), ZERO, HALF, ZERO, HALF, 10 ** 30), wanted)
        for w, wanted in ((Fraction(-199, 100), True), (Fraction(-2), False), (Fraction(-201, 100), False)):
            self.shows(one, ((2, 1), (2, 1), pair_of(w), ZERO, HALF, ZERO, HALF, 10 ** 30), wanted)

    def test_powers_that_rise_inside(self):
        # In LIFT m(r^j) is (r + 1) / 2 inside; with steps down in y it rises for small bases.
        one = steered_book(
            (Fraction(-1, 16), Fraction(1, 12)), (Fraction(1, 16), Fraction(1, 8)), (Fraction(1, 16), Fraction(-1, 8)),
        )
        # In y it goes up with 1/6 and down with 1/12, so m(r^j) is at most 1 from r = 1/2 on.
        shape = ((8, 1), (1, 1), (5, 3), (400, 1))
        for r, wanted in (
            ((1, 2), True), ((499999999999, 10 ** 12), False), ((500000000001, 10 ** 12), True), ((1, 3), False),
        ):
            self.shows(one, (*shape, r, ZERO, HALF, 10 ** 15), wanted)
        # Powers of s would rise, as x falls inside.
        self.shows(one, (*shape, HALF, (1, 10 ** 12), HALF, 10 ** 15), False)
        self.shows(one, (*shape, HALF, ZERO, (999, 1000), 10 ** 15), True)

    def test_c_beside_the_side(self):
        # In LIFT a' is 6 - c / 4, which has to be below 0.
        one, paper = PAPERS[1]
        for c, wanted in (((24, 1), False), ((24 * 10 ** 9 + 1, 10 ** 9), True), ((25, 1), True), (ZERO, False)):
            self.shows(one, (*paper[:3], c, HALF, ZERO, HALF, 10 ** 15), wanted)

    def test_slopes_of_zero(self):
        # Inside a is 2 (u Mx + w My), -1/3 (u + w); beside first a' is -1 u + w / 3.
        for u, v, w, wanted in ((1, 1, 2, True), (1, 1, 3, False), (1, 2, 3, False), (2, 1, 3, False), (2, 2, 5, True)):
            self.shows(PAIR, ((u, 1), (v, 1), (w, 1), ZERO, HALF, ZERO, HALF, 10 ** 6), wanted)

    def test_papers_of_home_with_another_corner(self):
        for one in home_books(41, 6):
            paper = home(one)[1]
            for n in (paper[7] - 2, paper[7] - 1, paper[7] + 1, paper[7] + 2, 2 * paper[7], 1, 0, -1):
                self.shows(one, with_part(paper, 7, n), is_right_yes(one, with_part(paper, 7, n)))

    def test_papers_with_parts_otherwise(self):
        random = Random(42)
        seen = {True: 0, False: 0}
        for one in home_books(42, 8):
            paper = home(one)[1]
            for _ in range(25):
                other = paper
                for at in random.sample(range(7), random.randint(1, 2)):
                    factor = Fraction(random.randint(1, 30), random.randint(1, 30)) * random.choice((1, 1, 1, -1))
                    part = random.choice((Fraction(*paper[at]) * factor, Fraction(*paper[at]) + factor / 10, factor))
                    other = with_part(other, at, pair_of(part))
                other = with_part(other, 7, paper[7] * random.choice((1, 1, 2, 10, 1000)))
                wanted = is_right_yes(one, other)
                seen[wanted] += 1
                self.shows(one, other, wanted)
        self.assertGreater(min(seen.values()), 100)


class NoPapers(Shown):
    def test_inner(self):
        # In GROW m(r^i) is r / 3 + 1 / 2 + 1 / (6 r), which is 1 at 1/2.
        for r, wanted in (
            (HALF, True), ((499999999999, 10 ** 12), False), ((999999999999, 10 ** 12), True), ((1, 3), False),
            (ONE, False), (ZERO, False), ((3, 2), False), ((-1, 2), False), ((2, 3), True),
        ):
            self.shows_away(GROW, ("inner", r, HALF), wanted)
            self.shows_away(GROW, ("inner", HALF, r), wanted)

    def test_inner_is_for_both_above_zero(self):
        # With no steps down all powers fall, but the other queue falls.
        one = book([(1, 0, 1, 2), (0, -1, 1, 2)], [(0, 1, 1, 2), (1, 0, 1, 2)], [(1, 0, 1, 1)])
        self.assertFalse(comes_home(one))
        for r in (HALF, (1, 10 ** 6), (999, 1000)):
            for s in (HALF, (1, 10 ** 6), (999, 1000)):
                self.shows_away(one, ("inner", r, s), False)
        self.shows_away(PAIR, ("inner", HALF, HALF), False)

    def test_along(self):
        # In CLIMB My - b Mx is (b - 1) / 6, By - b Bx is (3 - b) / 6.
        for b, wanted in (
            (ZERO, False), ((999999999999, 10 ** 12), False), (ONE, True), ((2, 1), True), ((3, 1), True),
            ((3 * 10 ** 11 + 1, 10 ** 11), False), ((4, 1), False), ((-1, 1), False), ((-2, 1), False),
        ):
            for s in (HALF, (1, 10 ** 12), (999, 1000)):
                self.shows_away(CLIMB, ("along", "second", b, ZERO, s), wanted)
                self.shows_away(CLIMB, ("along", "first", b, ZERO, s), False)

    def test_along_with_c(self):
        # Inside x goes up with 3/32 and down with 5/32; beside second it goes up with 1/16.
        s = Fraction(7, 8)
        t = 1 + Fraction(3, 32) * (s - 1) + Fraction(5, 32) * (1 / s - 1)
        low = Fraction(1, 8) / (Fraction(1, 16) * (1 - s))
        high = Fraction(1, 6) / (s * (t - 1))
        self.assertLess(low, high)
        for c, wanted in (
            (low, True), (low - SMALL, False), (high, True), (high + SMALL, False), ((low + high) / 2, True),
            (Fraction(0), False), (-low, False),
        ):
            self.shows_away(SINKING, ("along", "second", ZERO, pair_of(c), (7, 8)), wanted)
        self.shows_away(SINKING, ("along", "second", ONE, pair_of(low), (7, 8)), False)
        self.shows_away(SINKING, ("along", "second", ONE, pair_of(low + 8), (7, 8)), True)

    def test_bases_even_where_they_do_not_matter(self):
        for s in (ZERO, ONE, (3, 2), (-1, 2), (1, 0), (2, 4)):
            self.assertIs(shows_home(CLIMB, ("away", ("along", "second", ONE, ZERO, s))), False)
            self.assertIs(shows_home(GROW, ("away", ("inner", HALF, s))), False)
            self.assertIs(shows_home(GROW, ("away", ("inner", s, HALF))), False)

    def test_heights_where_both_are_above_zero(self):
        # By is 1/6 - 2/3 in GROW, so that c is needed there; beside first likewise.
        one = Book(GROW.text.replace("step 0 1 1/6\nstep 0 -1 2/3", "step 0 1 5/6"))
        self.shows_away(one, ("along", "second", ZERO, ZERO, HALF), True)
        self.shows_away(one, ("along", "second", ONE, ZERO, HALF), True)
        self.shows_away(one, ("along", "second", (1000001, 1000000), ZERO, HALF), False)
        self.shows_away(one, ("along", "first", ZERO, ZERO, HALF), False)
        self.shows_away(one, ("inner", HALF, HALF), True)

    def test_the_word_of_the_side(self):
        right = ("along", "second", ONE, ZERO, HALF)
        self.assertIs(shows_home(CLIMB, ("away", right)), True)
        for word in ("first", "inside", "none", "", "Second", "second ", None, 1, True, ("second",), ["second"], CLIMB):
            self.assertIs(shows_home(CLIMB, ("away", with_part(right, 1, word))), False)
        for word in ("inner", "home", "away", "", "Along", None, ("along",), CLIMB):
            self.assertIs(shows_home(CLIMB, ("away", with_part(right, 0, word))), False)

    def test_papers_with_parts_otherwise(self):
        random = Random(43)
        seen = {True: 0, False: 0}
        for one in away_books(43, 8):
            paper = home(one)[1]
            head = 1 if paper[0] == "inner" else 2
            for _ in range(25):
                other = paper
                for at in random.sample(range(head, len(paper)), random.randint(1, 2)):
                    factor = Fraction(random.randint(1, 30), random.randint(1, 30)) * random.choice((1, 1, 1, -1))
                    part = random.choice((Fraction(*paper[at]) * factor, Fraction(*paper[at]) + factor / 10, factor))
                    other = with_part(other, at, pair_of(part))
                wanted = is_right_no(one, other)
                seen[wanted] += 1
                self.shows_away(one, other, wanted)
        self.assertGreater(min(seen.values()), 100)


class Never(Shown):
    """Of each plain book yes papers alone are right, or no papers alone."""

    def random_fraction(self, random, high):
        return pair_of(Fraction(random.randint(0, 40), random.randint(1, 40)) * high)

    def test_random_papers(self):
        random = Random(44)
        for one in plain_books(44, 4):
            found = {"home": 0, "away": 0}
            for _ in range(30):
                b, c = self.random_fraction(random, 1), random.choice((ZERO, self.random_fraction(random, 9)))
                r, s = [pair_of(Fraction(random.randint(1, 39), 40)) for _ in range(2)]
                u, v = [pair_of(Fraction(random.randint(1, 40), random.randint(1, 9))) for _ in range(2)]
                d = random.choice((ZERO, self.random_fraction(random, 9)))
                for value in (
                    ("away", ("along", "first", b, c, s)), ("away", ("along", "second", b, c, s)),
                    ("away", ("inner", r, s)), ("home", (u, v, b, c, r, d, s, 10 ** 6)),
                    ("home", (u, v, b, c, r, ZERO, s, 10 ** 6)), ("home", (u, v, b, ZERO, r, d, s, 10 ** 6)),
                    ("home", (u, v, pair_of(-Fraction(*b)), ZERO, r, ZERO, s, 10 ** 6)),
                ):
                    word, paper = value
                    wanted = is_right_yes(one, paper) if word == "home" else is_right_no(one, paper)
                    self.assertIs(shows_home(one, value), wanted, (one.text, value))
                    found[word] += wanted
            self.assertEqual(found["away" if comes_home(one) else "home"], 0)

    def test_papers_of_other_books(self):
        books = plain_books(45, 1)
        papers = [home(one) for one in books]
        for one in books:
            for word, paper in papers:
                wanted = is_right_yes(one, paper) if word == "home" else is_right_no(one, paper)
                self.assertIs(shows_home(one, (word, paper)), wanted)


class AnyValue(Case):
    def never(self, value, *books):
        for one in books or (PAIR, CLIMB, GROW, LIFT):
            with self.subTest(value=value):
                self.assertIs(shows_home(one, value), False)

    def test_any_values(self):
        for value in any_values():
            self.never(value)
            for word in ("home", "away"):
                self.never((word, value))
                self.never((word, value, value))
                self.never((value, word))
            self.never((value, PAPERS[0][1]))
            self.never((value, ("inner", HALF, HALF)))
            self.never(("away", (value, HALF, HALF)))
            self.never(("away", ("along", value, ONE, ZERO, HALF)))

    def test_any_parts(self):
        rights = [("home", paper, one) for one, paper in PAPERS]
        rights += [("away", home(one)[1], one) for one in (CLIMB, GROW, SINKING)]
        for word, paper, one in rights:
            self.assertIs(shows_home(one, (word, paper)), True)
            for at in range(len(paper)):
                # These two are fractions, which might be right.
                values = any_but((1, 2), (1, 1)) + [-1, 0, "1/2", (2, 4), (1, 0), (1, -2), (0, 2), (2, True), [1, 2]]
                for value in values:
                    self.never((word, with_part(paper, at, value)), one)
            self.never((word, list(paper)), one)
            self.never([word, paper], one)
            self.never((word, paper, paper), one)
            self.never((word, *paper), one)
            self.never((word, paper[:-1]), one)
            self.never((word, paper + (1,)), one)
            self.never((word, paper + (HALF,)), one)
            self.never((word, (paper,)), one)
            self.never(paper, one)
            self.never((word,), one)
            self.never((word.upper(), paper), one)
            self.never(({"home": "away", "away": "home"}[word], paper), one)

    def test_corners_that_are_no_integers(self):
        one, paper = PAPERS[0]
        for n in (True, False, (3, 1), "3", None, [3], (3,)):
            self.never(("home", with_part(paper, 7, n)), one)
        # True is not 1, even where 1 is right.
        many = with_part(with_part(paper, 0, (10, 1)), 1, (10, 1))
        quick = book([(-1, -1, 1, 1)], [(-1, 0, 1, 2), (0, 1, 1, 2)], [(0, -1, 1, 2), (1, 0, 1, 2)])
        self.assertIs(shows_home(quick, ("home", with_part(many, 7, 1))), True)
        self.never(("home", with_part(many, 7, True)), quick)

    def test_by_name(self):
        self.assertIs(shows_home(value=("home", PAPERS[0][1]), book=PAIR), True)
        self.assertIs(shows_home(value=None, book=PAIR), False)
