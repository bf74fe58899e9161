"""Drifts of a book's regions, its turns, its border, and whether its walk comes home.

What is told by drifts alone is worked out of the three of them, (inside, first, second), by the functions .._by.
"""

from cornerdrifts.books import steps_of
from cornerdrifts.errors import Border
from cornerdrifts.exact import less, mean_of, times


def drift_of(steps):
    """The means of both numbers of some steps."""
    across = mean_of([((i, 1), chance) for i, _, chance in steps])
    along = mean_of([((j, 1), chance) for _, j, chance in steps])
    return (across, along)


def drifts_of(book):
    """The drifts inside, in first and in second."""
    return (drift_of(book.inside), drift_of(book.first), drift_of(book.second))


def turns_by(drifts):
    """The first turn and the second turn, asked or not."""
    (inside_x, inside_y), (first_x, first_y), (second_x, second_y) = drifts
    first_turn = less(times(first_y, inside_x), times(first_x, inside_y))
    second_turn = less(times(second_x, inside_y), times(second_y, inside_x))
    return (first_turn, second_turn)


def sides_by(drifts):
    """The sides to which the drift inside leads, also of a book on a border."""
    inside_x, inside_y = drifts[0]
    first = ("first",) if inside_y[0] < 0 else ()
    second = ("second",) if inside_x[0] < 0 else ()
    return first + second


def border_by(drifts):
    """The word of the border, None for a plain book."""
    (inside_x, inside_y), (_, first_y), (second_x, _) = drifts
    if inside_x[0] == 0:
        return "x"
    if inside_y[0] == 0:
        return "y"
    if first_y[0] == 0:
        return "first"
    if second_x[0] == 0:
        return "second"
    first_turn, second_turn = turns_by(drifts)
    sides = sides_by(drifts)
    if "first" in sides and first_turn[0] == 0:
        return "first turn"
    if "second" in sides and second_turn[0] == 0:
        return "second turn"
    return None


def rising_by(drifts):
    """The sides whose turns are asked and above 0."""
    sides = sides_by(drifts)
    first_turn, second_turn = turns_by(drifts)
    first = ("first",) if "first" in sides and first_turn[0] > 0 else ()
    second = ("second",) if "second" in sides and second_turn[0] > 0 else ()
    return first + second


def told_by(drifts):
    """Whether a book with these drifts is on a "border", or comes "home", or goes "away"."""
    if border_by(drifts) is not None:
        return "border"
    return "home" if sides_by(drifts) != () and rising_by(drifts) == () else "away"


def drift(book, region):
    """The means of both numbers of the region's steps."""
    return drift_of(steps_of(book, region))


def turns(book):
    """The first turn and the second turn, asked or not."""
    return turns_by(drifts_of(book))


def border(book):
    """The word of the book's border, None for a plain book."""
    return border_by(drifts_of(book))


def check_plain(book):
    """Raise if the book has a border."""
    word = border(book)
    if word is not None:
        raise Border(word)


def asked(book):
    """The sides whose turns are asked; the book must be plain."""
    check_plain(book)
    return sides_by(drifts_of(book))


def rising(book):
    """The sides whose turns are asked and above 0; the book must be plain."""
    check_plain(book)
    return rising_by(drifts_of(book))


def does_come_home(book):
    """Whether the walk comes home; the book must be plain."""
    check_plain(book)
    return told_by(drifts_of(book)) == "home"
