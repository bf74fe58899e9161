"""What a walk does far along a side: how much of its time the short queue has which length, and the long one's pace."""

from cornerdrifts.drifts import asked, check_plain, does_come_home, drift, drift_of, rising
from cornerdrifts.errors import BadNumber, Leaves, NoSide
from cornerdrifts.exact import ONE, TWO, ZERO, added, divided, is_integer, less, mean_of, negative, sum_of, times
from cornerdrifts.views import SIDES, seen_along

MOST_SHARES = 40
# No step leads up by more.
HIGHEST_STEP = 3


def share_beside(book, side):
    """The share of ticks at which the short queue is empty."""
    check_side(book, side)
    inside, beside, _ = seen_along(book, side)
    _, short = drift_of(inside)
    _, beside_short = drift_of(beside)
    return divided(negative(short), less(beside_short, short))


def pace(book, side):
    """By how much the long queue grows in the mean in one tick."""
    share = share_beside(book, side)
    inside, beside, _ = seen_along(book, side)
    long, _ = drift_of(inside)
    beside_long, _ = drift_of(beside)
    return mixed_mean(share, beside_long, long)


def shares(book, side, many):
    """The shares of ticks at which the short queue is 0, 1, 2 .., so many of them."""
    found = [share_beside(book, side)]
    if not is_integer(many) or not 0 <= many <= MOST_SHARES:
        raise BadNumber(many)
    inside, beside, _ = seen_along(book, side)
    down = sum_of([chance for _, short, chance in inside if short == -1])
    while len(found) < many:
        found.append(divided(flow_over(len(found) - 1, found, inside, beside), down))
    return tuple(found[:many])


def mean_beside(book, side):
    """The mean length of the short queue."""
    share = share_beside(book, side)
    inside, beside, _ = seen_along(book, side)
    _, short = drift_of(inside)
    square = mixed_mean(share, mean_square(beside), mean_square(inside))
    return divided(negative(square), times(TWO, short))


def goes(book):
    """Where the walk goes; the book must be plain."""
    if does_come_home(book):
        return ("home",)
    if asked(book) == ():
        return ("inside", drift(book, "inside"))
    sides = rising(book)
    word = "either" if len(sides) == 2 else sides[0]
    paces = [pace(book, side) for side in sides]
    return (word, *paces)


def check_side(book, side):
    """Raise unless the book is plain, and the walk stays beside this side."""
    check_plain(book)
    if side not in SIDES:
        raise NoSide(side)
    inside, _, _ = seen_along(book, side)
    _, short = drift_of(inside)
    if short[0] > 0:
        raise Leaves(side)


def mixed_mean(share, beside, inside):
    """The mean of what is told beside the side for this share of ticks, and inside for the rest."""
    return added(times(share, beside), times(less(ONE, share), inside))


def mean_square(steps):
    """The mean of the square of what the short queue gains."""
    return mean_of([((short * short, 1), chance) for _, short, chance in steps])


def flow_over(length, found, inside, beside):
    """The share of ticks at which the short queue is led above a length, up to which its shares are told."""
    flow = ZERO
    for ahead in range(max(0, length + 1 - HIGHEST_STEP), length + 1):
        steps = beside if ahead == 0 else inside
        up = sum_of([chance for _, short, chance in steps if ahead + short > length])
        flow = added(flow, times(found[ahead], up))
    return flow
