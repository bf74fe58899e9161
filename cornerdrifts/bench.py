"""A bench: a book under hands, whose deeds can be undone, done again, and tried."""

from cornerdrifts.books import Book, exchanged, mixed, slowed
from cornerdrifts.changes import moved
from cornerdrifts.drifts import drifts_of, told_by
from cornerdrifts.errors import NothingToRedo, NothingToUndo, NoTrial


class Bench:
    """A book under hands; it raises BadBook as Book does.

    A deed is a tuple of the name of its method and the arguments. What stands is past: of each deed a tuple (deed,
    book behind it), ahead of them (None, book with which the bench began). What was taken back is undone: tuples of
    the same kind, the one to be done again first at the end.
    """

    def __init__(self, text):
        book = Book(text)
        self.book = book
        self.done = 0
        self.told = told_by(drifts_of(book))
        self.past = ((None, book),)
        self.undone = ()
        # The innermost block that is not yet left.
        self.block = None

    def __eq__(self, other):
        return isinstance(other, Bench) and self.past == other.past

    def put(self, region, step, other, amount):
        """Make so much of the chance of a step another one's."""
        self.do(("put", region, step, other, amount), moved(self.book, region, step, other, amount))

    def turn(self):
        """Exchange both queues."""
        self.do(("turn",), exchanged(self.book))

    def slow(self, share):
        """Let the book do with this share what it does, else nothing."""
        self.do(("slow", share), slowed(self.book, share))

    def mix(self, text, share):
        """Let the book do with this share what it does, else what the text's book does."""
        self.do(("mix", text, share), mixed(self.book, Book(text), share))

    def undo(self):
        """Take the last deed back."""
        if self.done == 0:
            raise NothingToUndo(None)
        self.stand(self.past[:-1], self.undone + self.past[-1:])

    def redo(self):
        """Do the deed again that was taken back last."""
        if self.undone == ():
            raise NothingToRedo(None)
        self.stand(self.past + self.undone[-1:], self.undone[:-1])

    def trial(self):
        """What a with block enters, behind which the bench is as it was, unless keep was called."""
        return Trial(self)

    def keep(self):
        """Let the innermost block keep what is done in it."""
        block = self.block
        if block is None:
            raise NoTrial(None)
        block.kept = True

    def tried(self, look, *, keep=False):
        """What look tells of the bench, called with it within a block, which is kept if keep is True."""
        block = self.trial()
        with block:
            found = look(self)
            if keep is True:
                block.kept = True
        return found

    def copy(self):
        """An independent bench, alike in all things, outside of all blocks."""
        other = Bench(self.book.text)
        other.stand(self.past, self.undone)
        return other

    def do(self, deed, book):
        """Let a deed stand behind which the book is this one."""
        self.stand(self.past + ((deed, book),), ())

    def stand(self, past, undone):
        """Let these deeds stand, and those be taken back."""
        _, book = past[-1]
        self.told = told_by(drifts_of(book))
        self.book = book
        self.done = len(past) - 1
        self.past = past
        self.undone = undone


class Trial:
    """A block behind which a bench is as it was when it was entered, unless it is kept and no error leaves it."""

    def __init__(self, bench):
        self.bench = bench
        # None until keep is called; what the bench was is set on entering.
        self.kept = None

    def __enter__(self):
        bench = self.bench
        self.outer = bench.block
        self.book = bench.book
        self.done = bench.done
        self.told = bench.told
        self.past = bench.past
        self.undone = bench.undone
        bench.block = self
        return bench

    def __exit__(self, kind, value, trace):
        bench = self.bench
        bench.block = self.outer
        if kind is not None or self.kept is None:
            bench.book = self.book
            bench.done = self.done
            bench.told = self.told
            bench.past = self.past
            bench.undone = self.undone
