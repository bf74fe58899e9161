"""Far ways: how a walk goes when it is seen from very far, leg by leg."""

from cornerdrifts.drifts import check_plain, drift
from cornerdrifts.errors import Away, BadPlace, BadTime, Corner
from cornerdrifts.exact import ZERO, added, divided, is_below, is_from_zero, less, lesser, negative, sum_of, times
from cornerdrifts.sides import goes, pace

END = ((0, 1), (0, 1))


def legs(book, place):
    """The legs (x, y, speed of x, speed of y, time) of the far way from a place."""
    check_plain(book)
    if not isinstance(place, tuple) or len(place) != 2 or not is_from_zero(place[0]) or not is_from_zero(place[1]):
        raise BadPlace(place)
    if place == END:
        raise Corner(None)
    found = []
    time = ZERO
    while place != END and time is not None:
        speeds = speeds_at(book, place)
        time = time_until_empty(place, speeds)
        found.append((*place, *speeds, time))
        if time is not None:
            place = place_behind(place, speeds, time)
    return tuple(found)


def time_home(book, place):
    """How long all legs of the far way from a place last together."""
    lasting = [time for _, _, _, _, time in legs(book, place)]
    if lasting[-1] is None:
        raise Away(goes(book))
    return sum_of(lasting)


def at_time(book, place, time):
    """The place at which the far way from a place is behind this time."""
    way = legs(book, place)
    if not is_from_zero(time):
        raise BadTime(time)
    rest = time
    for x, y, speed_x, speed_y, lasting in way:
        if lasting is None or is_below(rest, lasting):
            return place_behind((x, y), (speed_x, speed_y), rest)
        rest = less(rest, lasting)
    return END


def speeds_at(book, place):
    """The speeds of both queues at a place that is not the end."""
    x, y = place
    inside_x, inside_y = drift(book, "inside")
    if y == ZERO and inside_y[0] < 0:
        return (pace(book, "first"), ZERO)
    if x == ZERO and inside_x[0] < 0:
        return (ZERO, pace(book, "second"))
    return (inside_x, inside_y)


def time_until_empty(place, speeds):
    """How long it takes until a queue that falls is empty, None if none falls."""
    found = None
    for length, speed in zip(place, speeds):
        if speed[0] < 0:
            time = divided(length, negative(speed))
            found = time if found is None else lesser(found, time)
    return found


def place_behind(place, speeds, time):
    """The place to which these speeds lead in this time."""
    x, y = place
    speed_x, speed_y = speeds
    return (added(x, times(speed_x, time)), added(y, times(speed_y, time)))
