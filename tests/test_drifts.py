"""Drifts, turns, borders, asked sides, and whether the walk comes home."""

from fractions import Fraction

from cornerdrifts.books import REGIONS, Book, exchanged, slowed
from cornerdrifts.drifts import asked, border, does_come_home, drift, turns
from cornerdrifts.errors import Border, NoRegion
from tests.samples import Case, any_values, book, chances, pair_of, queue, random_books, region_of

NEAR = [(-1, -1), (-1, 0), (-1, 1), (0, -1), (0, 0), (0, 1), (1, -1), (1, 0), (1, 1)]


def leading(across, along):
    """Steps inside whose drift has these two signs, and 1/4 as its amount."""
    steps = []
    if across:
        steps.append((across, 0, 1, 4))
    if along:
        steps.append((0, along, 1, 4))
    lacking = 4 - len(steps)
    return steps + [(0, 0, lacking, 4)]


def made(inside, first, second):
    """A book whose drifts inside have these signs; along the sides they are given, in quarters."""
    return book(leading(*inside), quarters(*first), quarters(*second))


def quarters(across, along):
    """Steps with the drift (across, along) in quarters, told one by one."""
    steps = []
    if across:
        steps.append((1 if across > 0 else -1, 0, abs(across), 4))
    if along:
        steps.append((0, 1 if along > 0 else -1, abs(along), 4))
    lacking = 4 - abs(across) - abs(along)
    if lacking:
        steps.append((0, 0, lacking, 4))
    return steps


def means(one, region):
    steps = chances(region_of(one, region))
    across = sum(i * chance for (i, _), chance in steps.items())
    along = sum(j * chance for (_, j), chance in steps.items())
    return Fraction(across), Fraction(along)


def wanted_turns(one):
    (mx, my), (ax, ay), (bx, by) = means(one, "inside"), means(one, "first"), means(one, "second")
    return ay * mx - ax * my, bx * my - by * mx


def wanted_border(one):
    (mx, my), (_, ay), (bx, _) = means(one, "inside"), means(one, "first"), means(one, "second")
    first_turn, second_turn = wanted_turns(one)
    applies = {
        "x": mx == 0, "y": my == 0, "first": ay == 0, "second": bx == 0,
        "first turn": my < 0 and first_turn == 0, "second turn": mx < 0 and second_turn == 0,
    }
    return ([word for word in applies if applies[word]] + [None])[0]


def wanted_asked(one):
    mx, my = means(one, "inside")
    return {
        (True, True): ("first", "second"), (True, False): ("second",), (False, True): ("first",), (False, False): (),
    }[mx < 0, my < 0]


def many_books():
    return random_books(20, 400)


class Drift(Case):
    def test_regions(self):
        self.same(drift(queue(), "inside"), ((-1, 4), (1, 4)))
        self.same(drift(queue(), "first"), ((0, 1), (1, 2)))
        self.same(drift(queue(), "second"), ((1, 3), (-2, 3)))
        self.same(drift(queue(), "none"), ((1, 2), (0, 1)))

    def test_by_name(self):
        self.same(drift(region="second", book=queue()), ((1, 3), (-2, 3)))

    def test_long_steps(self):
        one = book([(3, 3, 1, 2), (3, -1, 1, 3), (-1, 2, 1, 6)], [(3, 0, 1, 1)], [(0, 3, 1, 1)], [(3, 2, 1, 1)])
        self.same([drift(one, region) for region in REGIONS], [
            ((7, 3), (3, 2)), ((3, 1), (0, 1)), ((0, 1), (3, 1)), ((3, 1), (2, 1)),
        ])

    def test_all_books(self):
        for one in many_books():
            for region in REGIONS:
                across, along = means(one, region)
                self.same(drift(one, region), (pair_of(across), pair_of(along)))

    def test_no_regions(self):
        for value in any_values() + [0, 1, "Inside", "seconds", ("first",), ["none"]]:
            with self.subTest(value=value):
                self.refuses_it(NoRegion, value, drift, queue(), value)
        # A border does not matter here.
        self.refuses(NoRegion, "x", drift, region="x", book=made((0, 0), (0, 0), (0, 0)))


class Turns(Case):
    def test_both(self):
        self.same(turns(queue()), ((-1, 8), (-1, 12)))
        self.same(turns(book=queue()), ((-1, 8), (-1, 12)))

    def test_not_asked_or_on_a_border(self):
        # Inside both drifts are 1/4, so neither turn is asked.
        self.same(turns(made((1, 1), (-1, 2), (2, -1))), ((3, 16), (3, 16)))
        self.same(turns(made((0, 1), (1, 0), (0, 1))), ((-1, 16), (0, 1)))
        self.same(turns(made((0, 0), (1, 1), (1, 1))), ((0, 1), (0, 1)))
        self.same(turns(made((-1, -1), (1, 1), (1, 1))), ((0, 1), (0, 1)))

    def test_all_books(self):
        for one in many_books():
            first_turn, second_turn = wanted_turns(one)
            self.same(turns(one), (pair_of(first_turn), pair_of(second_turn)))


class Borders(Case):
    def on(self, word, one):
        self.same(border(one), word)
        self.same(border(book=one), word)
        if word is None:
            asked(one)
            does_come_home(one)
        else:
            self.refuses(Border, word, asked, one)
            self.refuses(Border, word, does_come_home, one)
            self.refuses(Border, word, asked, book=one)
            self.refuses(Border, word, does_come_home, book=one)

    def test_each_alone(self):
        self.on(None, made((-1, -1), (-1, 1), (1, -1)))
        self.on("x", made((0, -1), (-1, 1), (1, -1)))
        self.on("y", made((-1, 0), (-1, 1), (1, -1)))
        self.on("first", made((-1, -1), (-1, 0), (1, -1)))
        self.on("second", made((-1, -1), (-1, 1), (0, -1)))
        self.on("first turn", made((-1, -1), (1, 1), (1, -1)))
        self.on("second turn", made((-1, -1), (-1, 1), (1, 1)))

    def test_the_first_that_applies(self):
        self.on("x", made((0, 0), (0, 0), (0, 0)))
        self.on("x", made((0, 0), (1, 1), (1, 1)))
        self.on("x", made((0, -1), (1, 0), (0, -1)))
        self.on("y", made((-1, 0), (0, 0), (0, -1)))
        self.on("y", made((-1, 0), (1, 0), (1, 0)))
        self.on("first", made((-1, -1), (-1, 0), (0, -1)))
        self.on("first", made((-1, -1), (-1, 0), (1, 1)))
        self.on("first", made((1, -1), (0, 0), (0, 0)))
        self.on("second", made((-1, -1), (1, 1), (0, -1)))
        self.on("second", made((-1, 1), (1, 1), (0, 0)))
        self.on("first turn", made((-1, -1), (1, 1), (1, 1)))

    def test_sides_count_whether_asked_or_not(self):
        self.on("first", made((1, 1), (1, 0), (1, 1)))
        self.on("second", made((1, 1), (1, 1), (0, 1)))
        self.on("first", made((-1, 1), (1, 0), (1, -1)))
        self.on("second", made((1, -1), (-1, 1), (0, 1)))

    def test_turns_count_only_if_asked(self):
        one = made((1, 1), (1, 1), (1, 1))
        self.same(turns(one), ((0, 1), (0, 1)))
        self.on(None, one)
        one = made((-1, 1), (-1, 1), (1, -2))
        self.same(turns(one)[0], (0, 1))
        self.on(None, one)
        one = made((1, -1), (-2, 1), (1, -1))
        self.same(turns(one)[1], (0, 1))
        self.on(None, one)
        self.on("first turn", made((1, -1), (-1, 1), (1, -1)))
        self.on("second turn", made((-1, 1), (-1, 1), (1, -1)))

    def test_a_drift_of_little_is_no_border(self):
        big = 999999999989
        inside = [(1, 0, (big - 3) // 2, big), (-1, 0, (big - 1) // 2, big), (0, -1, 2, big)]
        self.on(None, book(inside, [(0, 1, 1, big), (0, 0, big - 1, big)], [(1, 0, 1, big), (0, -1, big - 1, big)]))

    def test_all_books(self):
        seen = set()
        for one in many_books():
            seen.add(wanted_border(one))
            self.on(wanted_border(one), one)
        # Turns of 0 are rare among these; each has books of its own above.
        self.assertLessEqual({None, "x", "y", "first", "second"}, seen)


class Asked(Case):
    def test_signs(self):
        self.same(asked(made((-1, -1), (-1, 1), (1, -1))), ("first", "second"))
        self.same(asked(made((-1, 1), (-1, 1), (1, -2))), ("second",))
        self.same(asked(made((1, -1), (-2, 1), (1, -1))), ("first",))
        self.same(asked(made((1, 1), (-1, 1), (1, -1))), ())
        self.same(asked(book=made((1, 1), (1, 1), (1, 1))), ())

    def test_all_books(self):
        for one in many_books():
            if wanted_border(one) is None:
                self.same(asked(one), wanted_asked(one))


class ComesHome(Case):
    def test_both_fall(self):
        self.same(does_come_home(made((-1, -1), (-1, 1), (1, -1))), True)
        self.same(does_come_home(made((-1, -1), (2, 1), (1, -1))), False)
        self.same(does_come_home(made((-1, -1), (-1, 1), (1, 2))), False)
        self.same(does_come_home(made((-1, -1), (2, 1), (1, 2))), False)

    def test_one_falls(self):
        # The second turn alone counts: By has to be below -1/4.
        self.same(does_come_home(made((-1, 1), (2, 1), (1, -2))), True)
        self.same(does_come_home(made((-1, 1), (-2, 1), (1, -2))), True)
        self.same(does_come_home(made((-1, 1), (-2, 1), (2, -1))), False)
        self.same(does_come_home(made((1, -1), (-2, 1), (1, 2))), True)
        self.same(does_come_home(made((1, -1), (-2, 1), (1, -2))), True)
        self.same(does_come_home(made((1, -1), (-1, 2), (1, -2))), False)

    def test_none_falls(self):
        # Both turns are below 0, which does not matter.
        one = made((1, 1), (2, 1), (1, 2))
        self.same(turns(one), ((-1, 16), (-1, 16)))
        self.same(does_come_home(one), False)
        self.same(does_come_home(made((1, 1), (-1, 2), (2, -1))), False)

    def test_by_name(self):
        self.same(does_come_home(book=queue()), True)

    def test_all_books(self):
        seen = set()
        for one in many_books():
            if wanted_border(one) is not None:
                continue
            asked_turns = dict(zip(("first", "second"), wanted_turns(one)))
            sides = wanted_asked(one)
            wanted = bool(sides) and all(asked_turns[side] < 0 for side in sides)
            self.same(does_come_home(one), wanted)
            seen.add((sides, wanted))
        self.assertEqual(len(seen), 7)

    def test_none_does_not_matter(self):
        for one in random_books(21, 30):
            other = Book(one.text.split("\nnone\n")[0] + "\nnone\nstep 3 3 1")
            self.same((border(other), turns(other)), (border(one), turns(one)))
            if border(one) is None:
                self.same((asked(other), does_come_home(other)), (asked(one), does_come_home(one)))


class Kin(Case):
    """What section 5 tells of all books that are exchanged, or slowed."""

    def test_exchanged(self):
        for one in many_books():
            other = exchanged(one)
            self.same(turns(other), turns(one)[::-1])
            self.same(drift(other, "inside"), drift(one, "inside")[::-1])
            self.same(drift(other, "second"), drift(one, "first")[::-1])
            self.assertEqual(border(other) is None, border(one) is None)
            if border(one) is None:
                names = {"first": "second", "second": "first"}
                self.same(asked(other), tuple(sorted(names[side] for side in asked(one))))
                self.same(does_come_home(other), does_come_home(one))

    def test_slowed(self):
        for one in random_books(22, 150):
            if any(len(region_of(one, region)) == 12 for region in REGIONS):
                continue
            for share in ((1, 2), (3, 7), (1, 1), (1, 999999999999)):
                slow = slowed(one, share)
                size = Fraction(*share)
                for region in REGIONS:
                    self.same(drift(slow, region), tuple(pair_of(Fraction(*mean) * size) for mean in drift(one, region)))
                self.same(turns(slow), tuple(pair_of(Fraction(*turn) * size * size) for turn in turns(one)))
                self.same(border(slow), border(one))
                if border(one) is None:
                    self.same((asked(slow), does_come_home(slow)), (asked(one), does_come_home(one)))

    def test_nothing_is_changed(self):
        for one in random_books(23, 30):
            ahead = (one.text, one.inside, one.first, one.second, one.none)
            found = (drift(one, "first"), turns(one), border(one))
            again = Book(one.text)
            self.same((drift(again, "first"), turns(again), border(again)), found)
            if border(one) is None:
                self.same((asked(one), does_come_home(one)), (asked(again), does_come_home(again)))
            else:
                self.refuses(Border, border(one), asked, one)
            self.same((one.text, one.inside, one.first, one.second, one.none), ahead)
