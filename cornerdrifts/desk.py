"""A desk: a bench that is asked, and worked on, by lines of words."""

from cornerdrifts.deeds import do_deed, on_one_line, read_deed
from cornerdrifts.drifts import border, drift, turns
from cornerdrifts.errors import BadWords
from cornerdrifts.exact import written
from cornerdrifts.journals import read_journal
from cornerdrifts.sides import goes


class Desk:
    """A desk on the bench of a journal; it raises BadJournal as read_journal does."""

    def __init__(self, text):
        self.bench = read_journal(text)

    def say(self, line):
        """The answer to a line; deeds, undo and redo are done on the bench."""
        if not isinstance(line, str) or "\n" in line:
            raise BadWords(line)
        if line == "undo":
            self.bench.undo()
            return "ok"
        if line == "redo":
            self.bench.redo()
            return "ok"
        deed = read_deed(line)
        if deed is not None:
            do_deed(self.bench, deed)
            return "ok"
        return told_of(self.bench, line)


def told_of(bench, line):
    """The answer to a line that changes nothing."""
    book = bench.book
    if line == "book":
        return on_one_line(book.text)
    if line == "told":
        return bench.told
    if line == "border":
        return border(book) or "plain"
    if line == "turns":
        return in_words(turns(book))
    if line == "goes":
        return way_in_words(goes(book))
    word, _, region = line.partition(" ")
    if word != "drift" or region == "" or " " in region:
        raise BadWords(line)
    return in_words(drift(book, region))


def in_words(fractions):
    """Some fractions, parted by blanks."""
    return " ".join([written(fraction) for fraction in fractions])


def way_in_words(way):
    """What goes tells of a book."""
    if way == ("home",):
        return "home"
    # Inside one pair of fractions is told, along sides a fraction for each.
    fractions = way[1] if way[0] == "inside" else way[1:]
    return f"{way[0]} {in_words(fractions)}"
