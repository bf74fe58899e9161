"""Benches that the tests share, and a plain one of lists that is worked out anew."""

from cornerdrifts.bench import Bench
from cornerdrifts.books import Book, exchanged, mixed, slowed
from cornerdrifts.changes import moved
from cornerdrifts.drifts import border, does_come_home
from cornerdrifts.errors import DriftError, NothingToRedo, NothingToUndo
from cornerdrifts.journals import journal
from tests.samples import Case, allowed_steps, random_book, region_of

# The book of the examples in section 13 of the document.
START = "\n".join([
    "book", "inside", "step -1 0 1/2", "step 0 -1 1/2", "first", "step -1 0 1/2", "step -1 1 1/2",
    "second", "step 0 -1 1/2", "step 1 -1 1/2", "none", "step 1 0 1/2", "step 0 1 1/2",
])
# A book in which nothing falls, and one on a border.
GROWING = START.replace("step -1 0 1/2\nstep 0 -1 1/2\nfirst", "step 1 0 1/2\nstep 0 1 1/2\nfirst")
ON_BORDER = START.replace("step -1 0 1/2\nstep 0 -1 1/2\nfirst", "step 0 -1 1\nfirst")
HALF = (1, 2)


def state(bench):
    """All that can be seen of a bench, and of what can be undone and done again."""
    other = bench.copy()
    undone = []
    while True:
        try:
            other.redo()
        except NothingToRedo:
            break
        undone.append(journal(other).split("\n")[-1])
    return (journal(bench), bench.book.text, bench.done, bench.told, undone)


class Plain:
    """A bench of lists: deeds that stand, and deeds that were taken back, as calls."""

    def __init__(self, text):
        self.text, self.deeds, self.undone = text, [], []

    def image(self):
        return (list(self.deeds), list(self.undone))

    def back_to(self, image):
        self.deeds, self.undone = list(image[0]), list(image[1])

    def book(self):
        """The book, every deed done anew."""
        found = Book(self.text)
        for deed in self.deeds:
            found = done(found, deed)
        return found

    def do(self, deed):
        done(self.book(), deed)
        self.deeds, self.undone = self.deeds + [deed], []

    def undo(self):
        if not self.deeds:
            raise NothingToUndo(None)
        self.undone.append(self.deeds.pop())

    def redo(self):
        if not self.undone:
            raise NothingToRedo(None)
        self.deeds.append(self.undone.pop())

    def told(self):
        book = self.book()
        if border(book) is not None:
            return "border"
        return "home" if does_come_home(book) else "away"

    def journal(self):
        return "\n".join(["bench", self.text] + [line_of(deed) for deed in self.deeds])

    def state(self):
        undone = [line_of(deed) for deed in reversed(self.undone)]
        return (self.journal(), self.book().text, len(self.deeds), self.told(), undone)


def done(book, deed):
    """The book behind a deed, which is told as the bench's method is called."""
    word, *told = deed
    if word == "put":
        return moved(book, *told)
    if word == "turn":
        return exchanged(book)
    if word == "slow":
        return slowed(book, *told)
    text, share = told
    return mixed(book, Book(text), share)


def fraction_text(fraction):
    top, bottom = fraction
    return f"{top}/{bottom}" if bottom > 1 else f"{top}"


def line_of(deed):
    """The line of a deed as section 14 has it."""
    word, *told = deed
    if word == "put":
        region, (i, j), (k, l), amount = told
        return f"put {region} {i} {j} {k} {l} {fraction_text(amount)}"
    if word == "slow":
        return f"slow {fraction_text(told[0])}"
    if word == "mix":
        return f"mix {fraction_text(told[1])} {told[0].replace(chr(10), ';')}"
    return "turn"


def do(bench, deed):
    """Do a deed on a bench."""
    word, *told = deed
    return getattr(bench, word)(*told)


def random_share(random):
    return random.choice([(1, 2), (1, 3), (2, 3), (9, 10), (1, 1), (0, 1), (2, 4), (3, 2)])


def random_deed(random, book):
    """Any deed, also one that is refused, or changes nothing."""
    word = random.choice(["put", "put", "put", "turn", "slow", "mix"])
    if word == "turn":
        return ("turn",)
    if word == "slow":
        return ("slow", random_share(random))
    if word == "mix":
        text = random.choice([START, GROWING, random_book(random).text, book.text, "book", ""])
        return ("mix", text, random_share(random))
    region = random.choice(["inside", "first", "second", "none"])
    i, j, chance = random.choice(region_of(book, region))
    amount = random.choice([chance, (0, 1), (1, 12), (1, 100), (1, 3), (2, 1)])
    return ("put", region, (i, j), random.choice(allowed_steps(region)), amount)


def refusal(call, *args, **named):
    """The error that a call raises, as its class and value; None if it raises none."""
    try:
        call(*args, **named)
    except DriftError as error:
        return (type(error), error.value)
    return None


class BenchCase(Case):
    def stands(self, bench, *deeds, text=START, undone=()):
        """The bench is the one on which these deeds were done, and no others; of the last ones some were undone."""
        plain = Plain(text)
        for deed in deeds:
            plain.do(deed)
        plain.undone = list(reversed(undone))
        self.same(state(bench), plain.state())

    def same_bench(self, bench, plain):
        self.same(state(bench), plain.state())
        self.assertIs(type(bench.book), Book)
        self.assertIs(type(bench.done), int)

    def made(self, *deeds, text=START):
        bench = Bench(text)
        for deed in deeds:
            self.assertIsNone(do(bench, deed))
        return bench
