"""Benches: deeds, what is told of them, what is taken back and done again, copies and equality."""

from random import Random

from cornerdrifts.bench import Bench
from cornerdrifts.books import Book, exchanged, mixed, slowed
from cornerdrifts.changes import moved
from cornerdrifts.drifts import border, does_come_home
from cornerdrifts.errors import BadAmount, BadBook, BadShare, BadStep, DriftError, Full, NoRegion, NothingToRedo
from cornerdrifts.errors import NothingToUndo
from tests.benches import GROWING, HALF, ON_BORDER, START, BenchCase, Plain, do, random_deed, refusal, state
from tests.samples import any_but, any_values, random_books, region_of
from tests.test_books import BAD_SHARES, with_full

PUT = ("put", "first", (-1, 0), (1, 0), HALF)
SLOW, TURN, MIX = ("slow", HALF), ("turn",), ("mix", GROWING, (2, 3))
DEEDS = [PUT, SLOW, TURN, MIX]
# Calls that are refused, with what they raise.
REFUSED = [
    (("put", "nowhere", (-1, 0), (1, 0), HALF), NoRegion, "nowhere"),
    (("put", "first", (3, 3), (1, 0), HALF), BadStep, (3, 3)),
    (("put", "first", [-1, 0], (1, 0), HALF), BadStep, [-1, 0]),
    (("put", "first", (-1, 0), (-1, 0), HALF), BadStep, (-1, 0)),
    (("put", "first", (-1, 0), (0, -1), HALF), BadStep, (0, -1)),
    (("put", "first", (-1, 0), (1, 0), (2, 3)), BadAmount, (2, 3)),
    (("put", "first", (-1, 0), (1, 0), None), BadAmount, None),
    (("slow", (0, 1)), BadShare, (0, 1)),
    (("slow", (3, 2)), BadShare, (3, 2)),
    (("mix", "book", HALF), BadBook, 2),
    (("mix", None, (2, 1)), BadBook, 0),
    (("mix", START, (2, 1)), BadShare, (2, 1)),
]


class Begin(BenchCase):
    def test_properties(self):
        bench = Bench(START)
        self.same((bench.book.text, bench.done, bench.told), (START, 0, "home"))
        self.assertIs(type(bench.book), Book)
        self.same(Bench(text=GROWING).told, "away")
        self.same(Bench(ON_BORDER).told, "border")
        self.assertLessEqual({"book", "done", "told"}, set(vars(bench)))

    def test_texts_of_no_book(self):
        for value in any_values() + [Book(START), 5]:
            if not isinstance(value, str):
                self.refuses(BadBook, 0, Bench, value)
        for text, number in (
            ("", 1), ("book", 2), ("bench\n" + START, 1), (START + "\n", 14), (START + "\nstep 0 0 1", 15),
            (START + "\nturn", 14), (START.replace("step 1 0 1/2", "step 1 0 2/4"), 12),
            ("\n".join(START.split("\n")[:12]), 13),
        ):
            self.assertEqual(refusal(Book, text), (BadBook, number))
            self.refuses(BadBook, number, Bench, text=text)

    def test_told_of_all_books(self):
        seen = set()
        for one in random_books(151, 80):
            told = Bench(one.text).told
            seen.add(told)
            if border(one) is not None:
                self.same(told, "border")
            else:
                self.same(told, "home" if does_come_home(one) else "away")
        self.assertEqual(seen, {"home", "away", "border"})


class Deeds(BenchCase):
    def test_put(self):
        bench = Bench(START)
        self.assertIsNone(bench.put("first", (-1, 0), (1, 0), HALF))
        self.same(bench.book.text, moved(Book(START), "first", (-1, 0), (1, 0), HALF).text)
        self.same((bench.done, bench.told), (1, "home"))
        self.assertIsNone(bench.put(amount=(1, 6), other=(1, 0), step=(-1, 1), region="first"))
        self.same((bench.done, bench.told, bench.book.first), (2, "border", ((-1, 1, (1, 3)), (1, 0, (2, 3)))))
        bench.put("first", (-1, 1), (1, 0), (1, 12))
        self.same((bench.done, bench.told), (3, "away"))

    def test_turn(self):
        bench = Bench(START)
        self.assertIsNone(bench.turn())
        self.same((bench.book.text, bench.done), (exchanged(Book(START)).text, 1))
        bench.turn()
        self.same((bench.book.text, bench.done), (START, 2))

    def test_slow(self):
        bench = Bench(START)
        self.assertIsNone(bench.slow((1, 3)))
        self.same((bench.book.text, bench.done), (slowed(Book(START), (1, 3)).text, 1))
        self.assertIsNone(bench.slow(share=(1, 5)))
        self.same((bench.book.text, bench.done), (slowed(Book(START), (1, 15)).text, 2))

    def test_mix(self):
        bench = Bench(START)
        self.assertIsNone(bench.mix(GROWING, (1, 3)))
        self.same((bench.book.text, bench.done), (mixed(Book(START), Book(GROWING), (1, 3)).text, 1))
        self.same(bench.told, "away")
        bench = Bench(GROWING)
        self.assertIsNone(bench.mix(share=(1, 3), text=START))
        self.same(bench.book.text, mixed(Book(GROWING), Book(START), (1, 3)).text)

    def test_what_changes_nothing_is_a_deed_too(self):
        for text in (START, GROWING, ON_BORDER):
            for deed in (
                ("put", "none", (1, 0), (3, 3), (0, 1)), ("slow", (1, 1)), ("mix", START, (1, 1)),
                ("mix", text, (1, 7)),
            ):
                bench = self.made(TURN, TURN, text=text)
                bench.undo()
                bench.redo()
                bench.undo()
                self.assertIsNone(do(bench, ("turn",)))
                self.assertIsNone(do(bench, deed))
                self.same((bench.book.text, bench.done), (text, 3))
                self.refuses(NothingToRedo, None, bench.redo)
                bench.undo()
                self.same((bench.book.text, bench.done), (text, 2))
                bench.redo()
                self.stands(bench, TURN, TURN, deed, text=text)

    def test_refused_deeds_change_nothing(self):
        for deed, error, value in REFUSED:
            for ahead, undone in (((), 0), ((TURN, TURN, SLOW), 0), ((TURN, TURN, SLOW), 1), ((TURN, TURN, SLOW), 3)):
                bench = self.made(*ahead)
                for _ in range(undone):
                    bench.undo()
                was = state(bench)
                book = bench.book
                with self.subTest(deed=deed, ahead=ahead, undone=undone):
                    self.refuses(error, value, do, bench, deed)
                    self.same(state(bench), was)
                    self.assertIs(bench.book, book)

    def test_values_of_refused_deeds(self):
        bench = Bench(START)
        for value in any_values():
            self.refuses_it(NoRegion, value, bench.put, value, (-1, 0), (1, 0), HALF)
            self.refuses_it(BadStep, value, bench.put, "first", value, (1, 0), None)
            self.refuses_it(BadStep, value, bench.put, "first", (-1, 0), value, None)
            self.refuses_it(BadShare, value, bench.mix, START, value)
            if not isinstance(value, str):
                self.refuses(BadBook, 0, bench.mix, value, HALF)
        for value in any_but(HALF) + [(2, 3), (1, 0), (True, 3)]:
            self.refuses_it(BadAmount, value, bench.put, "first", (-1, 0), (1, 0), value)
        for value in any_values() + BAD_SHARES:
            self.refuses_it(BadShare, value, bench.slow, value)
            self.refuses_it(BadShare, value, bench.mix, share=value, text=START)
        self.same(state(bench), state(Bench(START)))

    def test_full(self):
        for region in ("inside", "first", "second", "none"):
            full = with_full(region, [(0, 0)])
            bench = Bench(full.text)
            was = state(bench)
            self.refuses(Full, region, bench.slow, HALF)
            self.refuses(Full, region, bench.mix, with_full("none").text, HALF)
            i, j, _ = region_of(full, region)[0]
            self.refuses(Full, region, bench.put, region, (i, j), (0, 0), (1, 24))
            self.same(state(bench), was)


class Told(BenchCase):
    def test_turn_and_slow_never_alter_it(self):
        for one in random_books(152, 60):
            bench = Bench(one.text)
            told = bench.told
            for deed in (TURN, SLOW, TURN, ("slow", (1, 10 ** 9)), TURN, TURN):
                if refusal(do, bench, deed) is None:
                    self.same(bench.told, told)

    def test_turn_twice_leads_back(self):
        for one in random_books(153, 30):
            bench = Bench(one.text)
            bench.turn()
            bench.turn()
            self.assertEqual(bench.book, one)


class UndoAndRedo(BenchCase):
    def test_both_ends(self):
        bench = Bench(START)
        self.refuses(NothingToUndo, None, bench.undo)
        self.refuses(NothingToRedo, None, bench.redo)
        self.stands(bench)
        bench = self.made(*DEEDS)
        self.refuses(NothingToRedo, None, bench.redo)
        self.stands(bench, *DEEDS)

    def test_back_and_forth(self):
        bench = self.made(*DEEDS)
        for many in (3, 2, 1, 0):
            self.assertIsNone(bench.undo())
            self.stands(bench, *DEEDS[:many], undone=DEEDS[many:])
        self.refuses(NothingToUndo, None, bench.undo)
        self.stands(bench, undone=DEEDS)
        for many in (1, 2, 3, 4):
            self.assertIsNone(bench.redo())
            self.stands(bench, *DEEDS[:many], undone=DEEDS[many:])
        self.refuses(NothingToRedo, None, bench.redo)
        self.stands(bench, *DEEDS)

    def test_the_last_one_that_was_taken_back_comes_first(self):
        bench = self.made(PUT, SLOW, TURN)
        bench.undo()
        bench.undo()
        bench.redo()
        bench.undo()
        bench.redo()
        self.stands(bench, PUT, SLOW, undone=[TURN])
        bench.redo()
        self.stands(bench, PUT, SLOW, TURN)

    def test_behind_a_new_deed_nothing_is_done_again(self):
        for deed in DEEDS + [("put", "none", (1, 0), (3, 3), (0, 1)), ("slow", (1, 1))]:
            bench = self.made(TURN, TURN, SLOW)
            bench.undo()
            bench.undo()
            bench.undo()
            do(bench, deed)
            self.refuses(NothingToRedo, None, bench.redo)
            self.stands(bench, deed)
            bench.undo()
            self.stands(bench, undone=[deed])

    def test_behind_a_refused_deed_it_is_done_again(self):
        for deed, error, value in REFUSED:
            bench = self.made(TURN, TURN, SLOW)
            bench.undo()
            bench.undo()
            bench.undo()
            self.refuses(error, value, do, bench, deed)
            bench.redo()
            bench.redo()
            self.stands(bench, TURN, TURN, undone=[SLOW])

    def test_properties_go_along(self):
        bench = self.made(PUT, ("put", "first", (-1, 1), (1, 0), (1, 6)), ("put", "first", (-1, 1), (1, 0), (1, 12)))
        found = [bench.told]
        for call in (bench.undo, bench.undo, bench.undo, bench.redo, bench.redo, bench.redo):
            call()
            found.append((bench.told, bench.done))
        self.same(found, [
            "away", ("border", 2), ("home", 1), ("home", 0), ("home", 1), ("border", 2), ("away", 3),
        ])


class RandomDeeds(BenchCase):
    def test_as_a_bench_of_lists_does(self):
        random = Random(154)
        for _ in range(25):
            bench, plain = Bench(START), Plain(START)
            for _ in range(25):
                word = random.choice(["do", "do", "do", "undo", "redo"])
                if word == "do":
                    deed = random_deed(random, bench.book)
                    self.assertEqual(refusal(do, bench, deed), refusal(plain.do, deed))
                else:
                    self.assertEqual(refusal(getattr(bench, word)), refusal(getattr(plain, word)))
                self.same((bench.done, bench.told), (len(plain.deeds), plain.told()))
            self.same_bench(bench, plain)


class Copies(BenchCase):
    def test_alike_in_all_things(self):
        bench = self.made(*DEEDS)
        bench.undo()
        bench.undo()
        other = bench.copy()
        self.assertIs(type(other), Bench)
        self.assertIsNot(other, bench)
        self.assertEqual(other, bench)
        self.stands(other, *DEEDS[:2], undone=DEEDS[2:])
        other.redo()
        other.redo()
        self.stands(other, *DEEDS)
        for _ in range(4):
            other.undo()
        self.stands(other, undone=DEEDS)

    def test_independent(self):
        bench = self.made(PUT, SLOW)
        bench.undo()
        other = bench.copy()
        other.turn()
        self.stands(bench, PUT, undone=[SLOW])
        self.stands(other, PUT, TURN)
        bench.redo()
        bench.turn()
        bench.turn()
        self.stands(bench, PUT, SLOW, TURN, TURN)
        self.stands(other, PUT, TURN)
        self.stands(bench.copy().copy(), PUT, SLOW, TURN, TURN)

    def test_of_a_bench_on_which_nothing_was_done(self):
        other = Bench(ON_BORDER).copy()
        self.stands(other, text=ON_BORDER)
        self.refuses(NothingToUndo, None, other.undo)


class Equality(BenchCase):
    def test_equal_journals(self):
        self.assertEqual(Bench(START), Bench(START))
        self.assertEqual(self.made(*DEEDS), self.made(*DEEDS))
        self.assertFalse(Bench(START) != Bench(START))
        bench = self.made(PUT, SLOW)
        bench.undo()
        # What was taken back does not stand in the journal.
        self.assertEqual(bench, self.made(PUT))
        self.assertEqual(bench, bench)

    def test_other_journals(self):
        self.assertNotEqual(Bench(START), Bench(GROWING))
        self.assertNotEqual(self.made(PUT), Bench(START))
        self.assertNotEqual(self.made(PUT, TURN, SLOW), self.made(PUT, SLOW, TURN))
        self.assertNotEqual(self.made(SLOW), self.made(("slow", (1, 3))))
        self.assertNotEqual(self.made(MIX), self.made(("mix", START, (2, 3))))
        self.assertNotEqual(self.made(PUT), self.made(("put", "first", (-1, 0), (1, 0), (1, 3))))

    def test_equal_books_are_not_enough(self):
        bench = self.made(TURN, TURN)
        self.assertEqual(bench.book, Bench(START).book)
        self.assertNotEqual(bench, Bench(START))
        began = self.made(SLOW)
        self.assertNotEqual(Bench(began.book.text), began)
        self.assertNotEqual(self.made(("slow", (1, 1))), self.made(("mix", START, (1, 1))))

    def test_nothing_else(self):
        bench = Bench(START)
        for value in any_values() + [START, bench.book, "bench\n" + START, 0]:
            if not isinstance(value, Bench):
                self.assertFalse(bench == value)
                self.assertFalse(value == bench)
                self.assertTrue(bench != value)


class Errors(BenchCase):
    def test_all_are_drift_errors(self):
        bench = Bench(START)
        for call in (bench.undo, bench.redo, bench.keep):
            with self.assertRaises(DriftError):
                call()
