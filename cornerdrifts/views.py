"""Books as they are seen along one of their sides: steps of the long queue first, of the short one second."""

from cornerdrifts.books import mirrored

SIDES = ("first", "second")


def seen_along(book, side):
    """The steps inside, beside this side, and beside the other one; the side's own queue is the long one."""
    if side == "first":
        return (book.inside, book.first, book.second)
    return (mirrored(book.inside), mirrored(book.second), mirrored(book.first))
