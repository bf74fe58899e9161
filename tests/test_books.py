"""What is asked of books, and the books that are made from books."""

from fractions import Fraction

from cornerdrifts.books import REGIONS, Book, chance_of, exchanged, mixed, region_at, slowed, steps_of
from cornerdrifts.errors import BadPair, BadShare, BadStep, Full, NoRegion
from tests.samples import QUEUE_TEXT, Case, allowed_steps, any_values, book, chances, full_region, pair_of, queue
from tests.samples import random_books, region_of

BAD_SHARES = [
    (0, 1), (-1, 2), (-1, 1), (3, 2), (2, 1), (1000, 999), (2, 4), (3, 3), (2, 2), (10, 20), (1, 0), (0, 0), (0, 5),
    (1, -2), (-1, -2), (-1, -1), (1, -1), (True, 1), (True, 2), (1, True), (True, True), (1, 2, 3), (1,), [1, 2],
    [1, 1], "1/2", "1", 1, 0, True, None, ((1, 2),), ((1, 2), 1), (1, (2, 1)), {1: 2},
]
SHARES = [(1, 2), (1, 3), (2, 3), (99, 100), (1, 999999999999), (999999999998, 999999999999)]


def with_full(region, without=()):
    """A book of which one region has twelve steps."""
    lines = ["book"]
    for name in REGIONS:
        lines += full_region(region, 12, without) if name == region else [name, "step 0 0 1"]
    return Book("\n".join(lines))


class RegionAt(Case):
    def test_regions(self):
        for pair in ((1, 1), (10 ** 9, 10 ** 9), (1, 10 ** 9), (7, 3)):
            self.same(region_at(pair), "inside")
        for pair in ((1, 0), (10 ** 9, 0), (7, 0)):
            self.same(region_at(pair), "first")
        for pair in ((0, 1), (0, 10 ** 9), (0, 7)):
            self.same(region_at(pair), "second")
        self.same(region_at((0, 0)), "none")

    def test_by_name(self):
        self.same(region_at(pair=(0, 4)), "second")

    def test_numbers_out_of_bounds(self):
        for bad in (-1, -10 ** 9, 10 ** 9 + 1, 10 ** 11):
            for pair in ((bad, 0), (0, bad), (bad, 1), (1, bad), (bad, bad)):
                self.refuses_it(BadPair, pair, region_at, pair)

    def test_no_pairs(self):
        values = any_values() + [0, 1, [0, 0], [1, 1], (0, 0, 0), (0,), "00", "(0, 0)", ((0, 0),), (0, "0"), "inside"]
        for value in values:
            with self.subTest(value=value):
                self.refuses_it(BadPair, value, region_at, value)

    def test_bools_are_no_integers(self):
        for value in ((False, 0), (0, False), (True, 0), (1, True), (False, False)):
            self.refuses(BadPair, value, region_at, pair=value)


class StepsOf(Case):
    def test_regions(self):
        self.same(steps_of(queue(), "inside"), ((1, 0, (1, 4)), (-1, 1, (1, 2)), (0, -1, (1, 4))))
        self.same(steps_of(queue(), "first"), ((1, 0, (1, 2)), (-1, 1, (1, 2))))
        self.same(steps_of(queue(), "second"), ((1, 0, (1, 3)), (0, -1, (2, 3))))
        self.same(steps_of(queue(), "none"), ((1, 0, (1, 2)), (0, 0, (1, 2))))

    def test_by_name(self):
        self.same(steps_of(region="second", book=queue()), queue().second)

    def test_no_regions(self):
        for value in any_values() + [0, 1, "INSIDE", "firs", "first second", "turn", ("first",), list(REGIONS), REGIONS]:
            with self.subTest(value=value):
                self.refuses_it(NoRegion, value, steps_of, queue(), value)


class ChanceOf(Case):
    def test_every_step(self):
        for one in [queue()] + random_books(2, 20):
            for region in REGIONS:
                known = chances(region_of(one, region))
                for i, j in allowed_steps(region):
                    self.same(chance_of(one, region, i, j), pair_of(known.get((i, j), Fraction(0))))

    def test_by_name(self):
        self.same(chance_of(j=1, i=-1, region="first", book=queue()), (1, 2))

    def test_steps_out_of_bounds(self):
        for region in REGIONS:
            for i in range(-2, 5):
                for j in range(-2, 5):
                    if (i, j) not in allowed_steps(region):
                        self.refuses(BadStep, (i, j), chance_of, queue(), region, i, j)
        self.refuses(BadStep, (10 ** 11, 0), chance_of, queue(), "inside", 10 ** 11, 0)

    def test_no_integers(self):
        for region in REGIONS:
            for value in any_values() + ["0", (0,), (1, 0), [0], False]:
                with self.subTest(region, value=value):
                    kept = self.raises(BadStep, chance_of, queue(), region, value, 0)
                    self.assertIs(type(kept), tuple)
                    self.assertIs(kept[0], value)
                    self.same(kept[1:], (0,))
                    kept = self.raises(BadStep, chance_of, queue(), region, 1, value)
                    self.same(kept[:1], (1,))
                    self.assertIs(kept[1], value)
                    self.assertEqual(len(kept), 2)

    def test_the_region_comes_first(self):
        self.refuses(NoRegion, "ninside", chance_of, queue(), "ninside", 9, 9)
        self.refuses(NoRegion, None, chance_of, book=queue(), region=None, i="i", j="j")
        self.refuses(NoRegion, ["inside"], chance_of, queue(), ["inside"], 1, 0)


class Exchanged(Case):
    def test_steps_as_they_stand(self):
        other = exchanged(queue())
        self.same(other.inside, ((0, 1, (1, 4)), (1, -1, (1, 2)), (-1, 0, (1, 4))))
        self.same(other.first, ((0, 1, (1, 3)), (-1, 0, (2, 3))))
        self.same(other.second, ((0, 1, (1, 2)), (1, -1, (1, 2))))
        self.same(other.none, ((0, 1, (1, 2)), (0, 0, (1, 2))))
        lines = ["book", "inside", "step 0 1 1/4", "step 1 -1 1/2", "step -1 0 1/4", "first", "step 0 1 1/3"]
        lines += ["step -1 0 2/3", "second", "step 0 1 1/2", "step 1 -1 1/2", "none", "step 0 1 1/2", "step 0 0 1/2"]
        self.same(other.text, "\n".join(lines))

    def test_by_name(self):
        self.assertEqual(exchanged(book=queue()), exchanged(queue()))

    def test_all_books(self):
        for one in random_books(3, 60):
            other = exchanged(one)
            self.assertIs(type(other), Book)
            self.assertEqual(exchanged(other), one)
            self.assertEqual(len(other), len(one))
            for region, wanted in (("inside", one.inside), ("first", one.second), ("second", one.first)):
                self.same(region_of(other, region), tuple((j, i, chance) for i, j, chance in wanted))
            self.same(other.none, tuple((j, i, chance) for i, j, chance in one.none))


class Shares(Case):
    """Shares that slowed and mixed refuse."""

    def test_slowed(self):
        for value in any_values() + BAD_SHARES:
            with self.subTest(value=value):
                self.refuses_it(BadShare, value, slowed, queue(), value)

    def test_mixed(self):
        for value in any_values() + BAD_SHARES:
            with self.subTest(value=value):
                self.refuses_it(BadShare, value, mixed, queue(), queue(), value)

    def test_by_name(self):
        self.refuses(BadShare, (2, 4), slowed, share=(2, 4), book=queue())
        self.refuses(BadShare, (0, 1), mixed, share=(0, 1), other=queue(), one=queue())

    def test_the_share_comes_first(self):
        full = with_full("inside", [(0, 0)])
        for value in ((0, 1), (2, 2), (True, 2), [1, 2], None):
            self.refuses_it(BadShare, value, slowed, full, value)
            self.refuses_it(BadShare, value, mixed, full, exchanged(full), value)


class Slowed(Case):
    def test_steps(self):
        slow = slowed(queue(), (1, 2))
        self.same(slow.inside, ((1, 0, (1, 8)), (-1, 1, (1, 4)), (0, -1, (1, 8)), (0, 0, (1, 2))))
        self.same(slow.first, ((1, 0, (1, 4)), (-1, 1, (1, 4)), (0, 0, (1, 2))))
        self.same(slow.none, ((1, 0, (1, 4)), (0, 0, (3, 4))))

    def test_standing_still_keeps_its_line(self):
        one = book([(1, 0, 1, 3), (0, 0, 1, 3), (0, 1, 1, 3)], [(0, 0, 1, 2), (1, 1, 1, 2)], [(0, 0, 1, 1)])
        slow = slowed(one, (1, 4))
        self.same(slow.inside, ((1, 0, (1, 12)), (0, 0, (5, 6)), (0, 1, (1, 12))))
        self.same(slow.first, ((0, 0, (7, 8)), (1, 1, (1, 8))))
        self.same(slow.second, ((0, 0, (1, 1)),))

    def test_a_share_of_one(self):
        for one in [queue()] + random_books(4, 30):
            self.assertEqual(slowed(one, (1, 1)), one)
        for region in REGIONS:
            full = with_full(region, [(0, 0)])
            self.assertEqual(slowed(full, (1, 1)), full)

    def test_by_name(self):
        self.assertEqual(slowed(share=(1, 2), book=queue()), slowed(queue(), (1, 2)))

    def test_full(self):
        for region in REGIONS:
            for share in SHARES:
                self.refuses(Full, region, slowed, with_full(region, [(0, 0)]), share)

    def test_twelve_steps_with_the_one_that_stands_still(self):
        for region in REGIONS:
            self.assertEqual(len(slowed(with_full(region), (1, 3))), 15)

    def test_eleven_steps(self):
        for region in REGIONS:
            lines = ["book"]
            for name in REGIONS:
                lines += full_region(name, 11, [(0, 0)]) if name == region else [name, "step 0 0 1"]
            slow = slowed(Book("\n".join(lines)), (1, 3))
            self.assertEqual(len(region_of(slow, region)), 12)
            self.same(region_of(slow, region)[11], (0, 0, (2, 3)))

    def test_the_first_region_that_is_full(self):
        lines = ["book", "inside", "step 0 0 1"]
        for region in ("first", "second", "none"):
            lines += full_region(region, 12, [(0, 0)])
        full = Book("\n".join(lines))
        self.refuses(Full, "first", slowed, full, (1, 2))
        self.refuses(Full, "first", slowed, exchanged(full), (1, 2))

    def test_all_books(self):
        for one in random_books(5, 60):
            for share in SHARES:
                if any(len(region_of(one, region)) == 12 for region in REGIONS):
                    continue
                slow = slowed(one, share)
                self.assertIs(type(slow), Book)
                for region in REGIONS:
                    known = chances(region_of(one, region))
                    found = chances(region_of(slow, region))
                    wanted = {pair: chance * Fraction(*share) for pair, chance in known.items()}
                    wanted[0, 0] = wanted.get((0, 0), 0) + 1 - Fraction(*share)
                    self.assertEqual(list(found.items()), list(wanted.items()))
                    self.assertEqual(sum(found.values()), 1)

    def test_slowed_twice(self):
        for one in random_books(6, 40):
            for share, again in (((1, 2), (2, 3)), ((3, 7), (7, 9)), ((1, 1), (1, 5)), ((1, 5), (1, 1))):
                if any(len(region_of(one, region)) == 12 for region in REGIONS):
                    continue
                product = pair_of(Fraction(*share) * Fraction(*again))
                self.assertEqual(slowed(slowed(one, share), again), slowed(one, product))

    def test_told_numbers_of_many_figures(self):
        slow = queue()
        share = Fraction(999999999989, 999999999999)
        whole = Fraction(1)
        for _ in range(40):
            slow = slowed(slow, pair_of(share))
            whole = whole * share
        self.same(chance_of(slow, "inside", 1, 0), pair_of(whole / 4))
        self.same(chance_of(slow, "none", 0, 0), pair_of(1 - whole / 2))
        self.assertEqual(Book(slow.text), slow)


class Mixed(Case):
    def test_steps(self):
        mix = mixed(queue(), exchanged(queue()), (1, 3))
        self.same(mix.first, ((1, 0, (1, 6)), (-1, 1, (1, 6)), (0, 1, (2, 9)), (-1, 0, (4, 9))))
        self.same(mix.none, ((1, 0, (1, 6)), (0, 0, (1, 2)), (0, 1, (1, 3))))
        mix = mixed(exchanged(queue()), queue(), (1, 3))
        self.same(mix.none, ((0, 1, (1, 6)), (0, 0, (1, 2)), (1, 0, (1, 3))))

    def test_other_steps_stand_behind_as_they_stand(self):
        one = book([(1, 1, 1, 2), (0, 1, 1, 2)], [(0, 0, 1, 1)], [(0, 0, 1, 1)])
        other = book([(3, 3, 1, 4), (0, 1, 1, 4), (-1, -1, 1, 4), (0, 0, 1, 4)], [(1, 0, 1, 1)], [(0, 0, 1, 1)])
        mix = mixed(one, other, (3, 4))
        self.same(mix.inside, (
            (1, 1, (3, 8)), (0, 1, (7, 16)), (3, 3, (1, 16)), (-1, -1, (1, 16)), (0, 0, (1, 16)),
        ))
        self.same(mix.first, ((0, 0, (3, 4)), (1, 0, (1, 4))))
        self.same(mix.second, ((0, 0, (1, 1)),))

    def test_a_share_of_one(self):
        for one, other in zip(random_books(7, 30), random_books(8, 30)):
            self.assertEqual(mixed(one, other, (1, 1)), one)
        for region in REGIONS:
            self.assertEqual(mixed(with_full(region, [(0, 0)]), queue(), (1, 1)), with_full(region, [(0, 0)]))

    def test_by_name(self):
        found = mixed(share=(1, 3), other=exchanged(queue()), one=queue())
        self.assertEqual(found, mixed(queue(), exchanged(queue()), (1, 3)))
        self.assertNotEqual(found, mixed(exchanged(queue()), queue(), (1, 3)))

    def test_full(self):
        still = book([(0, 0, 1, 1)], [(0, 0, 1, 1)], [(0, 0, 1, 1)])
        for region in REGIONS:
            for share in SHARES:
                self.refuses(Full, region, mixed, with_full(region, [(0, 0)]), still, share)
                self.refuses(Full, region, mixed, still, with_full(region, [(0, 0)]), share)

    def test_twelve_steps_in_all(self):
        for region in REGIONS:
            pairs = allowed_steps(region)
            halves = []
            for some in (pairs[:8], pairs[4:12], pairs[4:13]):
                steps = {name: [(0, 0, 1, 1)] for name in REGIONS}
                steps[region] = [(i, j, 1, len(some)) for i, j in some]
                halves.append(book(*[steps[name] for name in REGIONS]))
            self.assertEqual(len(region_of(mixed(halves[0], halves[1], (1, 2)), region)), 12)
            self.refuses(Full, region, mixed, halves[0], halves[2], (1, 2))
            self.assertEqual(mixed(halves[0], halves[2], (1, 1)), halves[0])

    def test_the_first_region_that_is_full(self):
        lines = ["book", "inside", "step 0 0 1", "first", "step 0 0 1"]
        for region in ("second", "none"):
            lines += full_region(region, 12, [(0, 0)])
        full = Book("\n".join(lines))
        still = book([(0, 0, 1, 1)], [(0, 0, 1, 1)], [(0, 0, 1, 1)])
        self.refuses(Full, "second", mixed, full, still, (1, 2))
        self.refuses(Full, "second", mixed, still, full, (1, 2))
        self.refuses(Full, "first", mixed, still, exchanged(full), (1, 2))

    def test_all_books(self):
        for one, other in zip(random_books(9, 80), random_books(10, 80)):
            for share in ((1, 2), (2, 7), (999999999998, 999999999999)):
                many = [len(set(chances(region_of(one, r))) | set(chances(region_of(other, r)))) for r in REGIONS]
                full = [region for region, count in zip(REGIONS, many) if count > 12]
                if full:
                    self.refuses(Full, full[0], mixed, one, other, share)
                    continue
                mix = mixed(one, other, share)
                self.assertIs(type(mix), Book)
                for region in REGIONS:
                    first, second = chances(region_of(one, region)), chances(region_of(other, region))
                    wanted = {pair: chance * Fraction(*share) for pair, chance in first.items()}
                    for pair, chance in second.items():
                        wanted[pair] = wanted.get(pair, 0) + chance * (1 - Fraction(*share))
                    found = chances(region_of(mix, region))
                    self.assertEqual(list(found.items()), list(wanted.items()))
                    self.assertEqual(sum(found.values()), 1)

    def test_mixed_with_itself(self):
        for one in random_books(11, 40) + [with_full(region, [(0, 0)]) for region in REGIONS]:
            for share in SHARES + [(1, 1)]:
                self.assertEqual(mixed(one, one, share), one)


class Unchanged(Case):
    """Calls change nothing, and equal calls tell the same."""

    def check(self, call, *args):
        books = [value for value in args if isinstance(value, Book)]
        ahead = [(one.text, one.inside, one.first, one.second, one.none) for one in books]
        try:
            found = call(*args)
        except ValueError as error:
            found = (type(error), error.value)
        behind = [(one.text, one.inside, one.first, one.second, one.none) for one in books]
        self.same(behind, ahead)
        try:
            again = call(*[Book(value.text) if isinstance(value, Book) else value for value in args])
        except ValueError as error:
            again = (type(error), error.value)
        self.assertEqual(again, found)

    def test_functions(self):
        full = with_full("second", [(0, 0)])
        for one in (queue(), full, exchanged(queue())):
            self.check(exchanged, one)
            for region in REGIONS + ("no",):
                self.check(steps_of, one, region)
                self.check(chance_of, one, region, 1, 0)
                self.check(chance_of, one, region, -1, -1)
            for share in ((1, 2), (1, 1), (2, 2)):
                self.check(slowed, one, share)
                self.check(mixed, one, queue(), share)
                self.check(mixed, queue(), one, share)
        self.check(region_at, (1, 1))

    def test_the_text_stays(self):
        one = Book(QUEUE_TEXT)
        slowed(one, (1, 2))
        mixed(one, exchanged(one), (1, 2))
        self.same(one.text, QUEUE_TEXT)
        self.assertEqual(one, Book(QUEUE_TEXT))
