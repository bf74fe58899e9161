"""Journals of benches, and how texts are read back."""

from random import Random

from cornerdrifts.bench import Bench
from cornerdrifts.books import Book
from cornerdrifts.desk import Desk
from cornerdrifts.errors import BadJournal
from cornerdrifts.journals import journal, read_journal
from tests.benches import GROWING, HALF, ON_BORDER, START, BenchCase, Plain, do, random_deed, refusal, state
from tests.samples import any_values, random_books
from tests.test_bench import DEEDS, MIX, PUT, SLOW, TURN

HEAD = ["bench"] + START.split("\n")
BEHIND = len(HEAD) + 1
ROW = START.replace("\n", ";")
# Deeds with their lines.
LINES = [
    (("put", "first", (-1, 0), (1, 0), (1, 4)), "put first -1 0 1 0 1/4"),
    (("put", "inside", (0, -1), (3, -1), HALF), "put inside 0 -1 3 -1 1/2"),
    (("put", "none", (1, 0), (3, 3), (0, 1)), "put none 1 0 3 3 0"),
    (("turn",), "turn"),
    (("slow", (1, 1)), "slow 1"),
    (("slow", (2, 3)), "slow 2/3"),
    (("mix", START, (1, 1)), "mix 1 " + ROW),
    (("mix", GROWING, (1, 999999999999)), "mix 1/999999999999 " + GROWING.replace("\n", ";")),
]
# Lines of no form.
NO_DEEDS = [
    "", " ", "undo", "redo", "book", "told", "bench", "border", "drift inside", "turns", "goes", "step 0 0 1", "inside",
    "Turn", "turn ", " turn", "turn turn", "turn 1", "turns 1", "turn;", "turn\t", "keep", "tried", "trial", "copy",
    "put", "put ", "put first", "put first -1 0 1 0", "put first -1 0 1 0 1/4 ", " put first -1 0 1 0 1/4",
    "put  first -1 0 1 0 1/4", "put first  -1 0 1 0 1/4", "put first -1 0 1  0 1/4", "put first -1 0 1 0 1/4 1",
    "put -1 0 1 0 1/4", "put first (-1, 0) (1, 0) 1/4", "put first +1 0 1 0 1/4", "put first -1 00 1 0 1/4",
    "put first -1 -0 1 0 1/4", "put first -1 0 01 0 1/4", "put first -1 0 1 1/1 1/4", "put first -1 0 1 x 1/4",
    "put first -1 0 1 0 2/8", "put first -1 0 1 0 0/1", "put first -1 0 1 0 1/1", "put first -1 0 1 0 1/0",
    "put first -1 0 1 0 1/-4", "put first -1 0 1 0 +1/4", "put first -1 0 1 0 0.25", "put first -1 0 1 0 x",
    "put first -1 0 1 0 1/", "put first -1 0 1 0 /4", "put first -1 0 1 0 1/4;", "Put first -1 0 1 0 1/4",
    "put  -1 0 1 0 1/4", "put first -1.0 0 1 0 1/4", "put first None 0 1 0 1/4", "put first -1 0 1 True 1/4",
    "slow", "slow ", "slow  1/2", "slow 1/2 ", " slow 1/2", "slow 1/2 1", "slow 2/4", "slow 1/1", "slow 01", "slow x",
    "slow 1/0", "slow +1", "slow 1/2/3", "Slow 1/2", "slow1/2", "slow 0.5", "slow -0",
    "mix", "mix ", "mix 1/2", "mix 1/2 ", "mix 1/2  " + ROW, "mix  1/2 " + ROW, "mix 1/2 " + ROW + " ",
    " mix 1/2 " + ROW, "mix 2/4 " + ROW, "mix x " + ROW, "mix " + ROW, "mix " + ROW + " 1/2", "mix 1/1 " + ROW,
    "mix 1/2 book;inside;step  0 0 1", "Mix 1/2 " + ROW, "mix 1.0 " + ROW,
]
# Deeds that a form tells, but that the bench refuses.
REFUSED = [
    "put nowhere -1 0 1 0 1/4", "put First -1 0 1 0 1/4", "put first; -1 0 1 0 1/4", "put 1/2 -1 0 1 0 1/4",
    "put first 0 -1 1 0 1/4", "put first 9 9 1 0 1/4", "put first 1 0 -1 0 1/4", "put first -1 0 -1 0 1/4",
    "put first -1 0 0 -1 1/4", "put first -1 0 4 0 1/4", "put first -1 0 1 0 -1/4", "put first -1 0 1 0 2/3",
    "put first -1 0 1 0 1", "put first -1 0 99999999999 0 1/4", "slow 0", "slow -1/2", "slow 3/2", "slow 2",
    "mix 1/2 book", "mix 1/2 x", "mix 1/2 ;", "mix 1/2 ;" + ROW, "mix 1/2 " + ROW + ";", "mix 0 " + ROW,
    "mix 3/2 " + ROW, "mix -1/2 " + ROW, "mix 1/2 bench;" + ROW, "mix 1/2 " + ROW + ";turn", "mix 0 book",
    "mix 1/2 " + ROW.replace("step 0 1 1/2", "step 0 1 1/3"), "mix 1/2 put first -1 0 1 0 1/4", "mix 1/2 slow 1/2",
]


def text_of(*lines):
    return "\n".join(HEAD + list(lines))


class Written(BenchCase):
    def test_no_deeds(self):
        self.same(journal(Bench(START)), "bench\n" + START)
        self.same(journal(bench=Bench(ON_BORDER)), "bench\n" + ON_BORDER)

    def test_lines_of_deeds(self):
        for deed, line in LINES:
            self.same(journal(self.made(deed)).split("\n"), HEAD + [line])

    def test_several(self):
        bench = self.made(PUT, SLOW, TURN, MIX)
        lines = ["put first -1 0 1 0 1/2", "slow 1/2", "turn", "mix 2/3 " + GROWING.replace("\n", ";")]
        self.same(journal(bench).split("\n"), HEAD + lines)
        # What was taken back does not stand.
        bench.undo()
        bench.undo()
        self.same(journal(bench).split("\n"), HEAD + lines[:2])
        bench.redo()
        self.same(journal(bench).split("\n"), HEAD + lines[:3])
        bench.turn()
        self.same(journal(bench).split("\n"), HEAD + lines[:3] + ["turn"])

    def test_the_book_with_which_it_began(self):
        bench = self.made(TURN, SLOW)
        self.same(journal(bench).split("\n")[1:14], START.split("\n"))
        with bench.trial():
            bench.undo()
            self.same(journal(bench), text_of("turn"))
        self.same(journal(bench), text_of("turn", "slow 1/2"))
        self.same(journal(bench.copy()), journal(bench))

    def test_asking_changes_nothing(self):
        bench = self.made(*DEEDS)
        bench.undo()
        was = state(bench)
        self.same(journal(bench), journal(bench))
        self.same(state(bench), was)


class ReadBack(BenchCase):
    def test_all_deeds(self):
        for deed, line in LINES:
            bench = read_journal(text_of(line))
            self.assertIs(type(bench), Bench)
            self.stands(bench, deed)
        bench = read_journal(text_of(*[line for _, line in LINES[2:]]))
        self.stands(bench, *[deed for deed, _ in LINES[2:]])
        self.assertEqual(read_journal(text=text_of("turn")), self.made(TURN))

    def test_no_deeds(self):
        self.stands(read_journal("bench\n" + START))
        self.stands(read_journal("bench\n" + GROWING), text=GROWING)

    def test_what_was_told_can_be_handed_in(self):
        random = Random(171)
        for one in random_books(172, 25):
            bench = Bench(one.text)
            for _ in range(8):
                refusal(do, bench, random_deed(random, bench.book))
                if random.random() < 0.2:
                    refusal(bench.undo)
            other = read_journal(journal(bench))
            self.assertEqual(other, bench)
            self.same(journal(other), journal(bench))
            self.same((other.book.text, other.done, other.told), (bench.book.text, bench.done, bench.told))

    def test_deeds_can_be_undone(self):
        bench = read_journal(text_of("turn", "slow 1/2"))
        bench.undo()
        self.stands(bench, TURN, undone=[SLOW])
        bench.undo()
        self.assertIsNone(bench.redo())
        self.stands(bench, TURN, undone=[SLOW])

    def test_against_a_bench_of_lists(self):
        random = Random(173)
        for _ in range(20):
            plain = Plain(START)
            for _ in range(10):
                refusal(plain.do, random_deed(random, plain.book()))
            self.same_bench(read_journal(plain.journal()), plain)

    def test_semicolons_are_line_feeds(self):
        bench = read_journal(text_of("mix 1/2 " + ROW))
        self.stands(bench, ("mix", START, HALF))
        self.same(bench.book.text, START)


class Wrong(BenchCase):
    def bad(self, text, number):
        with self.subTest(text=text):
            self.refuses(BadJournal, number, read_journal, text)
            self.refuses(BadJournal, number, read_journal, text=text)
            self.refuses(BadJournal, number, Desk, text)
            self.refuses(BadJournal, number, Desk, text=text)

    def test_no_strings(self):
        for value in any_values() + [Bench(START), Book(START), HEAD, tuple(HEAD), 1]:
            if not isinstance(value, str):
                self.bad(value, 0)

    def test_the_first_line(self):
        for line in ("", " ", "bench ", " bench", "Bench", "benches", "bench bench", "book", "turn", "undo", "slow 1"):
            self.bad("\n".join([line] + HEAD[1:]), 1)
            self.bad("\n".join([line] + HEAD[1:] + ["turn"]), 1)
            self.bad(line, 1)
        self.bad(START, 1)
        self.bad("\n" + text_of(), 1)

    def test_a_book_that_lacks(self):
        self.bad("bench", 2)
        self.bad("bench\n", 2)
        self.bad("bench\nturn", 2)
        self.bad("bench\nturn\n" + START, 2)
        self.bad("bench\nput", 2)
        self.bad("bench\nbook", 3)
        self.bad("bench\nbook\nturn", 3)
        self.bad("bench\nbook\nslow 1/2\ninside", 3)

    def test_each_line_of_the_book(self):
        for number in range(2, len(HEAD) + 1):
            for line in ("", "undo", "redo", "Book", "book ", "step 0 0 2/4", "inside ", "bench", " turn", "mixed 1"):
                lines = HEAD[:number - 1] + [line] + HEAD[number:]
                self.bad("\n".join(lines), number)
                self.bad("\n".join(lines + ["turn", "wrong"]), number)

    def test_books_that_end_early(self):
        for many in range(1, len(HEAD)):
            lines = HEAD[:many]
            number = refusal(Book, "\n".join(lines[1:]))[1] + 1
            self.bad("\n".join(lines), number)
            # A deed ends the book, whatever stands behind it.
            for line in ("turn", "turn 1", "put", "put x", "slow 1/2", "slow", "mix ", "mix 1/2 book"):
                self.bad("\n".join(lines + [line] + HEAD[many:]), number)

    def test_chances_that_do_not_add_up(self):
        lines = list(HEAD)
        lines[4] = "step 0 -1 1/3"
        self.bad("\n".join(lines), 6)
        self.bad("\n".join(lines + ["turn"]), 6)
        lines = list(HEAD)
        lines[13] = "step 0 1 1/3"
        self.bad("\n".join(lines), BEHIND)
        self.bad("\n".join(lines + ["turn", "wrong"]), BEHIND)

    def test_lines_of_no_form(self):
        for line in NO_DEEDS:
            self.bad(text_of("turn", "turn", line), BEHIND + 2)
            self.bad(text_of("slow 1/2", line, "turn", "wrong"), BEHIND + 1)
        for line in ("turn ", "turn 1", "put", "put ", "put first", "slow", "slow x", "mix", "mix 1/2", "mix 1/2 "):
            # These end the book, too.
            self.bad(text_of(line), BEHIND)

    def test_a_line_feed_at_the_end(self):
        self.bad(text_of() + "\n", BEHIND)
        self.bad(text_of("turn") + "\n", BEHIND + 1)
        self.bad(text_of("turn", "", "turn"), BEHIND + 1)

    def test_deeds_that_are_refused(self):
        for line in REFUSED:
            self.bad(text_of(line), BEHIND)
            self.bad(text_of("turn", "turn", line, "wrong"), BEHIND + 2)

    def test_deeds_that_the_ones_ahead_make_wrong(self):
        put = "put first -1 0 1 0 1/2"
        self.stands(read_journal(text_of(put)), PUT)
        self.bad(text_of(put, put), BEHIND + 1)
        self.bad(text_of("slow 1/2", put), BEHIND + 1)
