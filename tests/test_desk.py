"""Desks: each form of line, and its answer."""

from random import Random

from cornerdrifts.bench import Bench
from cornerdrifts.books import Book, exchanged
from cornerdrifts.desk import Desk
from cornerdrifts.drifts import border, drift, turns
from cornerdrifts.errors import BadAmount, BadBook, BadJournal, BadShare, BadStep, BadWords, Border, Full, NoRegion
from cornerdrifts.errors import NothingToRedo, NothingToUndo, NoTrial
from cornerdrifts.journals import journal, read_journal
from cornerdrifts.sides import goes
from tests.benches import GROWING, HALF, ON_BORDER, START, BenchCase, Plain, fraction_text, line_of, random_deed
from tests.benches import refusal, state
from tests.samples import any_values, random_books
from tests.test_bench import MIX, PUT, SLOW, TURN
from tests.test_books import with_full
from tests.test_journals import LINES, NO_DEEDS, ROW
from tests.test_ways import ALONE, OPENING, SPREADING

NO_WORDS = [
    "undo ", " undo", "undo 1", "undo undo", "Undo", "redo ", " redo", "redo 1", "book ", " book", "book 1", "Book",
    "told ", " told", "told 1", "Told", "border ", " border", "border x", "Border", "turns ", " turns", "turns 1",
    "goes ", " goes", "goes home", "Goes", "drift", "drift ", " drift", "drift  inside", "drift inside ", "drift  ",
    " drift inside", "drift inside first", "Drift inside", "drifts inside", "drift;inside", "keep", "trial", "tried",
    "copy", "journal", "done", "bench", "inside", "step 0 0 1", "legs", "border;", "undo\n", "\n", "told\ntold",
    "drift inside\n", "\ndrift inside", "turn\nturn", "slow 1/2\n", "put first -1 0 1 0 1/4\n", "mix 1/2 " + START,
]
FORMS = ["", " ", "turn ", " turn", "turn turn", "turn 1"]


def desk(text=START, *lines):
    return Desk("\n".join(["bench", text, *lines]))


def told_texts(fractions):
    return " ".join(fraction_text(fraction) for fraction in fractions)


class TheBench(BenchCase):
    def test_the_very_one(self):
        one = desk()
        bench = one.bench
        self.assertIs(type(bench), Bench)
        self.same(one.say("turn"), "ok")
        self.assertIs(one.bench, bench)
        self.stands(bench, TURN)
        bench.slow(HALF)
        self.same(one.say("drift inside"), "-1/4 -1/4")
        self.same(one.say("undo"), "ok")
        self.stands(bench, TURN, undone=[SLOW])
        self.assertIn("bench", vars(one))

    def test_of_a_journal(self):
        one = desk(START, "put first -1 0 1 0 1/2", "slow 1/2")
        self.stands(one.bench, PUT, SLOW)
        self.same(one.say("undo"), "ok")
        self.stands(one.bench, PUT, undone=[SLOW])

    def test_in_blocks(self):
        one = desk()
        with one.bench.trial():
            self.same(one.say("turn"), "ok")
            self.same(one.say("slow 1/2"), "ok")
        self.stands(one.bench)
        one.bench.tried(lambda held: one.say("turn"), keep=True)
        self.stands(one.bench, TURN)
        self.refuses(NoTrial, None, one.bench.keep)


class Deeds(BenchCase):
    def test_each_line(self):
        for deed, line in LINES:
            one = desk()
            self.same(one.say(line), "ok")
            self.stands(one.bench, deed)
            self.same(one.say("undo"), "ok")
            self.stands(one.bench, undone=[deed])
            self.same(one.say("redo"), "ok")
            self.stands(one.bench, deed)
            self.same(one.say(line="turn"), "ok")
            self.stands(one.bench, deed, TURN)

    def test_random_deeds(self):
        random = Random(181)
        for _ in range(15):
            one, plain = desk(), Plain(START)
            for _ in range(15):
                word = random.choice(["do", "do", "do", "undo", "redo"])
                if word != "do":
                    self.assertEqual(refusal(one.say, word), refusal(getattr(plain, word)))
                    continue
                deed = random_deed(random, one.bench.book)
                line = line_of(deed)
                if "2/4" in line.split(" ")[:2] or deed == ("mix", "", deed[-1]):
                    # Neither a fraction, nor a text without signs, stands in a line so.
                    self.refuses(BadWords, line, one.say, line)
                else:
                    self.assertEqual(refusal(one.say, line), refusal(plain.do, deed))
            self.same_bench(one.bench, plain)


class Answers(BenchCase):
    def test_values(self):
        one = desk()
        self.same(one.say("book"), ROW)
        self.same(one.say("told"), "home")
        self.same(one.say("border"), "plain")
        self.same(one.say("drift inside"), "-1/2 -1/2")
        self.same(one.say("drift first"), "-1 1/2")
        self.same(one.say("drift none"), "1/2 1/2")
        self.same(one.say("turns"), "-3/4 -3/4")
        self.same(one.say("goes"), "home")
        self.same(one.say(line="drift second"), "1/2 -1")
        self.stands(one.bench)

    def test_integers_and_signs(self):
        one = desk("book\ninside\nstep -1 0 1\nfirst\nstep 3 0 1\nsecond\nstep 0 2 1\nnone\nstep 0 0 1")
        self.same([one.say(f"drift {region}") for region in ("inside", "first", "second", "none")],
                  ["-1 0", "3 0", "0 2", "0 0"])
        self.same([one.say("turns"), one.say("border"), one.say("told")], ["0 2", "y", "border"])

    def test_borders(self):
        self.same([desk(ON_BORDER).say(line) for line in ("border", "told")], ["x", "border"])
        one = desk()
        self.same(one.say("put first -1 0 1 0 1/2"), "ok")
        self.same(one.say("put first -1 1 1 0 1/6"), "ok")
        self.same([one.say("border"), one.say("told"), one.say("turns")], ["first turn", "border", "0 -3/4"])
        self.refuses(Border, "first turn", one.say, "goes")
        self.same(one.say("turn"), "ok")
        self.same([one.say("border"), one.say("told")], ["second turn", "border"])
        self.refuses(Border, "second turn", one.say, "goes")
        self.refuses(Border, "x", desk(ON_BORDER).say, "goes")

    def test_where_it_goes(self):
        self.same(desk(OPENING.text).say("goes"), "inside 1/8 1/16")
        self.same(desk(exchanged(OPENING).text).say("goes"), "inside 1/16 1/8")
        self.same(desk(ALONE.text).say("goes"), "first 1/5")
        self.same(desk(exchanged(ALONE).text).say("goes"), "second 1/5")
        self.same(desk(SPREADING.text).say("goes"), "either 1/24 1/24")
        self.same(desk(GROWING).say("goes"), "inside 1/2 1/2")

    def test_all_books(self):
        words = set()
        for book in random_books(182, 80) + [SPREADING, ALONE, OPENING]:
            one = desk(book.text)
            self.same(one.say("book"), book.text.replace("\n", ";"))
            self.same(one.say("told"), one.bench.told)
            self.same(one.say("border"), border(book) or "plain")
            self.same(one.say("turns"), told_texts(turns(book)))
            for region in ("inside", "first", "second", "none"):
                self.same(one.say("drift " + region), told_texts(drift(book, region)))
            if border(book) is not None:
                self.refuses(Border, border(book), one.say, "goes")
                continue
            word, *fractions = goes(book)
            words.add(word)
            if word == "inside":
                fractions = fractions[0]
            self.same(one.say("goes"), " ".join([word] + [fraction_text(fraction) for fraction in fractions]))
        self.assertEqual(words, {"home", "inside", "first", "second", "either"})

    def test_the_book_as_it_is_now(self):
        one = desk()
        one.say("turn")
        self.same(one.say("book"), exchanged(Book(START)).text.replace("\n", ";"))
        # What was told can be said again.
        self.same(one.say("mix 1/3 " + one.say("book")), "ok")
        self.same(one.bench.book.text, exchanged(Book(START)).text)

    def test_asking_changes_nothing(self):
        one = desk(START, "turn", "slow 1/2")
        one.say("undo")
        was = state(one.bench)
        for line in ("book", "told", "border", "drift inside", "turns", "goes"):
            self.same(one.say(line), one.say(line))
        self.same(state(one.bench), was)


class Wrong(BenchCase):
    def refuses_all(self, values):
        one = desk(START, "turn", "slow 1/2")
        one.say("undo")
        was = state(one.bench)
        for value in values:
            with self.subTest(value=value):
                self.refuses_it(BadWords, value, one.say, value)
                self.refuses_it(BadWords, value, one.say, line=value)
        self.same(state(one.bench), was)

    def test_no_strings(self):
        self.refuses_all([value for value in any_values() + [1, ["turn"], ("turn",)] if not isinstance(value, str)])

    def test_lines_of_no_form(self):
        known = ("undo", "redo", "book", "told", "border", "turns", "goes", "drift inside")
        self.refuses_all([line for line in NO_DEEDS if line not in known] + NO_WORDS + FORMS)

    def test_errors_that_pass_through(self):
        for line, error, value in (
            ("undo", NothingToUndo, None), ("redo", NothingToRedo, None), ("drift nowhere", NoRegion, "nowhere"),
            ("drift Inside", NoRegion, "Inside"), ("drift inside;", NoRegion, "inside;"),
            ("put nowhere -1 0 1 0 1/4", NoRegion, "nowhere"), ("put first 3 3 1 0 1/4", BadStep, (3, 3)),
            ("put first -1 0 0 -1 1/4", BadStep, (0, -1)), ("put first -1 0 -1 0 1/4", BadStep, (-1, 0)),
            ("put first -1 0 1 0 2/3", BadAmount, (2, 3)), ("put first -1 0 1 0 -1/4", BadAmount, (-1, 4)),
            ("put first -1 0 1 0 7", BadAmount, (7, 1)), ("slow 0", BadShare, (0, 1)), ("slow -1/2", BadShare, (-1, 2)),
            ("slow 3/2", BadShare, (3, 2)), ("mix 0 " + ROW, BadShare, (0, 1)), ("mix 3 " + ROW, BadShare, (3, 1)),
            ("mix 0 book", BadBook, 2), ("mix 1/2 x", BadBook, 1), ("mix 1/2 ;", BadBook, 1),
            ("mix 1/2 " + ROW + ";", BadBook, 14), ("mix 1/2 book;inside;step 0 0 1/2", BadBook, 4),
        ):
            one = desk()
            with self.subTest(line=line):
                self.refuses(error, value, one.say, line)
                self.stands(one.bench)
                self.same(one.say("turn"), "ok")
                self.same(one.say("undo"), "ok")
                if line != "redo":
                    self.refuses(error, value, one.say, line)
                    self.stands(one.bench, undone=[TURN])

    def test_full(self):
        for region in ("inside", "first", "second", "none"):
            one = desk(with_full(region, [(0, 0)]).text)
            self.refuses(Full, region, one.say, "slow 1/2")
            self.refuses(Full, region, one.say, "mix 1/2 " + with_full("inside").text.replace("\n", ";"))
            self.same(one.say("slow 1"), "ok")

    def test_journals(self):
        for value in any_values():
            if not isinstance(value, str):
                self.refuses(BadJournal, 0, Desk, value)
        self.refuses(BadJournal, 1, Desk, text=START)
        self.refuses(BadJournal, 15, desk, START, "undo")
        self.refuses(BadJournal, 16, desk, START, "turn", "slow 2")


class Desks(BenchCase):
    def test_two_desks_are_independent(self):
        one, other = desk(), desk()
        one.say("turn")
        self.stands(one.bench, TURN)
        self.stands(other.bench)

    def test_journals_of_desks(self):
        one = desk()
        for line in ("mix 2/3 " + GROWING.replace("\n", ";"), "turn", "undo", "told", "goes", "slow 1/2"):
            one.say(line)
        self.stands(one.bench, MIX, SLOW)
        again = Desk(journal(one.bench))
        self.assertEqual(again.bench, one.bench)
        self.assertEqual(read_journal(journal(one.bench)), one.bench)
        self.same(again.say("book"), one.say("book"))

    def test_long_numbers(self):
        one = desk(OPENING.text)
        for _ in range(12):
            self.same(one.say("slow 999999999989/999999999999"), "ok")
        again = Desk(journal(one.bench))
        self.same(again.say("book"), one.say("book"))
        self.same(one.say("mix 1/2 " + one.say("book")), "ok")
        self.same(again.say("book"), one.say("book"))
