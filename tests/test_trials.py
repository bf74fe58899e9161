"""Blocks of benches: what is tried in them, kept or not."""

from random import Random

from cornerdrifts.bench import Bench
from cornerdrifts.errors import BadShare, DriftError, NothingToRedo, NothingToUndo, NoTrial
from tests.benches import HALF, START, BenchCase, Plain, do, random_deed, refusal, state
from tests.samples import any_values
from tests.test_bench import DEEDS, MIX, PUT, SLOW, TURN


class Odd(Exception):
    """An error of someone else."""


class Blocks(BenchCase):
    def test_held_is_the_bench_itself(self):
        bench = Bench(START)
        with bench.trial() as held:
            self.assertIs(held, bench)
            held.turn()
            self.stands(bench, TURN)
        self.stands(bench)

    def test_left_as_it_was_entered(self):
        for ahead, undone in (((), 0), (DEEDS, 0), (DEEDS, 1), (DEEDS, 4)):
            bench = self.made(*ahead)
            for _ in range(undone):
                bench.undo()
            was, book = state(bench), bench.book
            with bench.trial():
                bench.turn()
                bench.turn()
                bench.slow((1, 3))
                bench.undo()
                self.assertNotEqual(bench.done, was[2])
            self.same(state(bench), was)
            self.assertIs(bench.book, book)

    def test_an_empty_block(self):
        bench = self.made(PUT, SLOW)
        bench.undo()
        with bench.trial():
            pass
        self.stands(bench, PUT, undone=[SLOW])

    def test_kept(self):
        bench = self.made(PUT)
        with bench.trial() as held:
            held.slow(HALF)
            self.assertIsNone(held.keep())
            held.turn()
        self.stands(bench, PUT, SLOW, TURN)
        bench.undo()
        bench.undo()
        bench.undo()
        self.stands(bench, undone=[PUT, SLOW, TURN])

    def test_keep_comes_first_or_last_or_twice(self):
        for calls in (("keep", "turn"), ("turn", "keep"), ("keep", "turn", "keep"), ("keep", "keep", "turn")):
            bench = Bench(START)
            with bench.trial():
                for call in calls:
                    getattr(bench, call)()
            self.stands(bench, TURN)

    def test_left_by_an_error(self):
        bench = self.made(PUT, SLOW)
        bench.undo()
        error = Odd("odd")
        with self.assertRaises(Odd) as caught:
            with bench.trial():
                bench.turn()
                raise error
        self.assertIs(caught.exception, error)
        self.stands(bench, PUT, undone=[SLOW])

    def test_kept_and_left_by_an_error(self):
        for kind in (Odd, DriftError, KeyError, KeyboardInterrupt, GeneratorExit):
            bench = self.made(PUT, SLOW)
            bench.undo()
            with self.assertRaises(kind):
                with bench.trial():
                    bench.turn()
                    bench.keep()
                    raise kind("odd")
            self.stands(bench, PUT, undone=[SLOW])
            self.refuses(NoTrial, None, bench.keep)

    def test_an_error_that_does_not_leave_the_block(self):
        bench = Bench(START)
        with bench.trial():
            bench.turn()
            self.refuses(BadShare, None, bench.slow, None)
            self.refuses(NothingToRedo, None, bench.redo)
            bench.keep()
        self.stands(bench, TURN)

    def test_left_by_return_and_continue(self):
        bench = Bench(START)

        def leave(keeps):
            with bench.trial():
                bench.turn()
                if keeps:
                    bench.keep()
                return bench.done

        self.same(leave(False), 1)
        self.stands(bench)
        self.same(leave(True), 1)
        self.stands(bench, TURN)
        for _ in range(3):
            with bench.trial():
                bench.turn()
                continue
        self.stands(bench, TURN)

    def test_what_was_done_ahead_is_undone_in_it(self):
        bench = self.made(PUT, SLOW, TURN)
        bench.undo()
        with bench.trial():
            bench.undo()
            bench.undo()
            self.refuses(NothingToUndo, None, bench.undo)
            self.stands(bench, undone=[PUT, SLOW, TURN])
            bench.redo()
            bench.redo()
            bench.redo()
            self.stands(bench, PUT, SLOW, TURN)
        self.stands(bench, PUT, SLOW, undone=[TURN])
        with bench.trial():
            bench.undo()
            bench.turn()
            bench.keep()
        self.stands(bench, PUT, TURN)
        self.refuses(NothingToRedo, None, bench.redo)

    def test_what_was_undone_in_it_is_done_again_behind_it(self):
        bench = self.made(PUT, SLOW)
        with bench.trial():
            bench.undo()
            bench.keep()
        self.stands(bench, PUT, undone=[SLOW])
        bench.redo()
        self.stands(bench, PUT, SLOW)

    def test_entered_later_than_made(self):
        bench = Bench(START)
        block = bench.trial()
        bench.turn()
        self.refuses(NoTrial, None, bench.keep)
        with block:
            bench.slow(HALF)
        self.stands(bench, TURN)


class BlocksWithinBlocks(BenchCase):
    def test_neither_is_kept(self):
        bench = Bench(START)
        with bench.trial():
            bench.turn()
            with bench.trial():
                bench.slow(HALF)
                self.stands(bench, TURN, SLOW)
            self.stands(bench, TURN)
        self.stands(bench)

    def test_the_inner_one_is_kept(self):
        bench = Bench(START)
        with bench.trial():
            bench.turn()
            with bench.trial():
                bench.slow(HALF)
                bench.keep()
            self.stands(bench, TURN, SLOW)
        self.stands(bench)

    def test_the_outer_one_is_kept(self):
        for ahead in (True, False):
            bench = Bench(START)
            with bench.trial():
                bench.turn()
                if ahead:
                    bench.keep()
                with bench.trial():
                    bench.slow(HALF)
                if not ahead:
                    bench.keep()
            self.stands(bench, TURN)

    def test_both_are_kept(self):
        bench = Bench(START)
        with bench.trial() as held, held.trial() as inner:
            self.assertIs(inner, bench)
            inner.turn()
            inner.keep()
        self.stands(bench)
        with bench.trial():
            bench.keep()
            with bench.trial():
                bench.turn()
                bench.keep()
        self.stands(bench, TURN)

    def test_keep_belongs_to_the_innermost_that_is_open(self):
        bench = Bench(START)
        with bench.trial():
            with bench.trial():
                bench.keep()
            bench.turn()
            with bench.trial():
                bench.slow(HALF)
            bench.keep()
            bench.turn()
        self.stands(bench, TURN, TURN)

    def test_an_error_leaves_the_inner_one_alone(self):
        bench = Bench(START)
        with bench.trial():
            bench.turn()
            with self.assertRaises(Odd):
                with bench.trial():
                    bench.slow(HALF)
                    bench.keep()
                    raise Odd
            self.stands(bench, TURN)
            bench.keep()
        self.stands(bench, TURN)

    def test_an_error_leaves_both(self):
        bench = self.made(PUT)
        with self.assertRaises(Odd):
            with bench.trial():
                bench.keep()
                with bench.trial():
                    bench.turn()
                    bench.keep()
                    raise Odd
        self.stands(bench, PUT)
        self.refuses(NoTrial, None, bench.keep)

    def test_three(self):
        bench = Bench(START)
        with bench.trial():
            bench.turn()
            with bench.trial():
                bench.slow(HALF)
                with bench.trial():
                    bench.undo()
                    bench.undo()
                    bench.keep()
                self.stands(bench, undone=[TURN, SLOW])
            self.stands(bench, TURN)
            bench.keep()
        self.stands(bench, TURN)


class Keep(BenchCase):
    def test_outside_of_a_block(self):
        bench = self.made(PUT, SLOW)
        bench.undo()
        self.refuses(NoTrial, None, bench.keep)
        with bench.trial():
            bench.keep()
        self.refuses(NoTrial, None, bench.keep)
        bench.tried(lambda held: held.keep())
        self.refuses(NoTrial, None, bench.keep)
        self.stands(bench, PUT, undone=[SLOW])

    def test_blocks_of_another_bench(self):
        bench, other = Bench(START), Bench(START)
        with bench.trial():
            self.refuses(NoTrial, None, other.keep)
            with other.trial():
                other.turn()
                bench.turn()
                bench.keep()
            bench.slow(HALF)
        self.stands(other)
        self.stands(bench, TURN, SLOW)


class Tried(BenchCase):
    def test_what_look_tells(self):
        bench = Bench(START)
        seen = []
        wanted = object()

        def look(held):
            seen.append(held)
            held.turn()
            return wanted

        self.assertIs(bench.tried(look), wanted)
        self.assertIs(bench.tried(look=look), wanted)
        self.assertTrue(len(seen) == 2 and all(held is bench for held in seen))
        self.stands(bench)
        self.assertIsNone(bench.tried(lambda held: None))
        self.same(bench.tried(lambda held: held.done), 0)

    def test_kept(self):
        bench = self.made(PUT)
        self.same(bench.tried(lambda held: (held.turn(), held.done), keep=True), (None, 2))
        self.stands(bench, PUT, TURN)

    def test_other_values_keep_nothing(self):
        for value in any_values() + [1, "True", (True,), [True], 2, -1]:
            if value is True:
                continue
            bench = self.made(PUT, SLOW)
            bench.undo()
            with self.subTest(value=value):
                self.assertIsNone(bench.tried(lambda held: held.turn(), keep=value))
                self.stands(bench, PUT, undone=[SLOW])

    def test_look_keeps(self):
        for value in (False, True, None, 0, 1):
            bench = Bench(START)
            bench.tried(lambda held: (held.keep(), held.turn()), keep=value)
            self.stands(bench, TURN)

    def test_look_keeps_an_inner_block(self):
        bench = Bench(START)

        def look(held):
            with held.trial():
                held.turn()
                held.keep()
            return held.done

        self.same(bench.tried(look), 1)
        self.stands(bench)
        self.same(bench.tried(look, keep=True), 1)
        self.stands(bench, TURN)

    def test_an_inner_block_that_is_not_kept(self):
        bench = Bench(START)

        def look(held):
            held.turn()
            with held.trial():
                held.slow(HALF)

        bench.tried(look, keep=True)
        self.stands(bench, TURN)

    def test_errors_pass_on(self):
        for keep in (False, True):
            bench = self.made(PUT, SLOW)
            bench.undo()
            error = Odd("odd")

            def look(held):
                held.turn()
                held.keep()
                raise error

            with self.assertRaises(Odd) as caught:
                bench.tried(look, keep=keep)
            self.assertIs(caught.exception, error)
            self.refuses(BadShare, (0, 1), bench.tried, lambda held: (held.turn(), held.slow((0, 1))), keep=keep)
            self.stands(bench, PUT, undone=[SLOW])
            self.refuses(NoTrial, None, bench.keep)

    def test_within_each_other(self):
        bench = Bench(START)

        def outer(held):
            held.turn()
            held.tried(lambda inner: inner.slow(HALF), keep=True)
            held.tried(lambda inner: inner.turn())
            return held.done

        self.same(bench.tried(outer), 2)
        self.stands(bench)
        self.same(bench.tried(outer, keep=True), 2)
        self.stands(bench, TURN, SLOW)

    def test_a_method_as_look(self):
        bench = Bench(START)
        self.assertIsNone(bench.tried(Bench.turn, keep=True))
        self.stands(bench, TURN)

    def test_keep_is_handed_in_by_name(self):
        bench = Bench(START)
        with self.assertRaises(TypeError):
            bench.tried(lambda held: held.turn(), True)
        self.stands(bench)


class CopiesInBlocks(BenchCase):
    def test_a_copy_is_outside_of_all_blocks(self):
        bench = self.made(PUT)
        with bench.trial():
            bench.turn()
            other = bench.copy()
            self.assertEqual(other, bench)
            self.refuses(NoTrial, None, other.keep)
            bench.slow(HALF)
            other.turn()
            self.stands(bench, PUT, TURN, SLOW)
        self.stands(bench, PUT)
        self.stands(other, PUT, TURN, TURN)

    def test_a_copy_does_not_keep_for_the_other_one(self):
        bench = Bench(START)
        with bench.trial():
            bench.turn()
            other = bench.copy()
            with other.trial():
                other.slow(HALF)
                other.keep()
        self.stands(bench)
        self.stands(other, TURN, SLOW)

    def test_a_copy_of_a_kept_block(self):
        bench = Bench(START)
        with bench.trial():
            bench.keep()
            other = bench.copy()
            other.turn()
            self.refuses(NoTrial, None, other.keep)
        self.stands(bench)
        self.stands(other, TURN)


class RandomBlocks(BenchCase):
    def play(self, random, bench, plain, depth, many):
        """Do the same on both benches, in blocks within blocks."""
        for _ in range(many):
            word = random.choice(["do", "do", "undo", "redo", "block", "tried"])
            if word == "do":
                deed = random_deed(random, bench.book)
                self.assertEqual(refusal(do, bench, deed), refusal(plain.do, deed))
            elif word in ("undo", "redo"):
                self.assertEqual(refusal(getattr(bench, word)), refusal(getattr(plain, word)))
            elif depth < 3:
                self.block(random, bench, plain, depth, word)
            self.same((bench.done, bench.told), (len(plain.deeds), plain.told()))

    def block(self, random, bench, plain, depth, word):
        keeps, fails = random.random() < 0.5, random.random() < 0.3
        image = plain.image()

        def inside(held):
            self.play(random, held, plain, depth + 1, random.randint(0, 6))
            if keeps and word == "block":
                held.keep()
            if fails:
                raise Odd

        try:
            if word == "tried":
                bench.tried(inside, keep=keeps)
            else:
                with bench.trial() as held:
                    inside(held)
        except Odd:
            self.assertTrue(fails)
        if fails or not keeps:
            plain.back_to(image)
        self.same_bench(bench, plain)

    def test_as_a_bench_of_lists_does(self):
        random = Random(161)
        for _ in range(20):
            bench, plain = Bench(START), Plain(START)
            self.play(random, bench, plain, 0, 8)
            self.same_bench(bench, plain)
            self.refuses(NoTrial, None, bench.keep)

    def test_mixes(self):
        bench = self.made(MIX)
        with bench.trial():
            bench.undo()
        self.stands(bench, MIX)
