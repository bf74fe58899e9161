"""Journals: the texts of benches, which are read back."""

from cornerdrifts.bench import Bench
from cornerdrifts.deeds import deed_line, do_deed, is_of_deed, read_deed
from cornerdrifts.errors import BadBook, BadJournal, DriftError


def journal(bench):
    """The book with which the bench began, and the deeds that stand, line by line."""
    _, began = bench.past[0]
    return "\n".join(["bench", began.text] + [deed_line(deed) for deed, _ in bench.past[1:]])


def read_journal(text):
    """The bench of a journal; it raises BadJournal with the number of the line that is wrong."""
    if not isinstance(text, str):
        raise BadJournal(0)
    lines = text.split("\n")
    if lines[0] != "bench":
        raise BadJournal(1)
    end = end_of_book(lines)
    bench = begin_bench(lines[1:end])
    for number, line in enumerate(lines[end:], start=end + 1):
        do_line(bench, line, number)
    return bench


def end_of_book(lines):
    """How many lines stand ahead of the first one of a deed, which the journal's own first one is not."""
    for at, line in enumerate(lines):
        if is_of_deed(line):
            return at
    return len(lines)


def begin_bench(lines):
    """The bench that begins with the book of these lines."""
    try:
        return Bench("\n".join(lines))
    except BadBook as error:
        # Ahead of the book's lines stands the journal's first one.
        raise BadJournal(error.value + 1) from None


def do_line(bench, line, number):
    """Do the deed of a journal's line on the bench."""
    deed = read_deed(line)
    if deed is None:
        raise BadJournal(number)
    try:
        do_deed(bench, deed)
    except DriftError:
        raise BadJournal(number) from None
