"""Deeds of a bench, as lines of journals and desks write them.

A deed is a tuple of the name of the bench's method and its arguments, as a bench keeps it.
"""

from cornerdrifts.exact import read_fraction, read_integer, written

WORDS = ("put", "turn", "slow", "mix")


def is_of_deed(line):
    """Whether the word of a deed stands ahead of the line's first blank, or alone."""
    word, _, _ = line.partition(" ")
    return word in WORDS


def deed_line(deed):
    """The line of a deed."""
    word = deed[0]
    if word == "put":
        _, region, (i, j), (other_i, other_j), amount = deed
        return f"put {region} {i} {j} {other_i} {other_j} {written(amount)}"
    if word == "slow":
        return f"slow {written(deed[1])}"
    if word == "mix":
        return f"mix {written(deed[2])} {on_one_line(deed[1])}"
    return "turn"


def on_one_line(text):
    """A text of several lines as one line tells it."""
    return text.replace("\n", ";")


def read_deed(line):
    """The deed that a line tells, None if the line has none of the forms."""
    words = line.split(" ")
    # An empty word stands where two blanks are side by side, or one is at an end.
    if "" in words:
        return None
    if words[0] == "put" and len(words) == 7:
        return read_put(words)
    if words == ["turn"]:
        return ("turn",)
    if words[0] == "slow" and len(words) == 2:
        share = read_fraction(words[1])
        return None if share is None else ("slow", share)
    if words[0] == "mix" and len(words) > 2:
        share = read_fraction(words[1])
        return None if share is None else ("mix", " ".join(words[2:]).replace(";", "\n"), share)
    return None


def read_put(words):
    """The deed of the words of a put, None if its numbers are none."""
    numbers = [read_integer(word) for word in words[2:6]]
    amount = read_fraction(words[6])
    if None in numbers or amount is None:
        return None
    i, j, other_i, other_j = numbers
    return ("put", words[1], (i, j), (other_i, other_j), amount)


def do_deed(bench, deed):
    """Do a deed on a bench."""
    word, *told = deed
    if word == "put":
        bench.put(*told)
    elif word == "slow":
        bench.slow(*told)
    elif word == "mix":
        bench.mix(*told)
    else:
        bench.turn()
