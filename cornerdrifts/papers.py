"""Papers that show whether a walk comes home, and which of them are right of a book.

A shape is what a yes paper tells ahead of its corner: (u, v, w, c, r, d, s). What is worked out along a side is
told of steps and shapes that are turned so that the side's own queue, the long one, stands first.
"""

from cornerdrifts.books import mirrored
from cornerdrifts.drifts import drift_of
from cornerdrifts.exact import ONE, TWO, ZERO, added, divided, greater, is_below, is_fraction, is_from_zero
from cornerdrifts.exact import is_integer, less, mean_of, negative, power, rounded_up, sum_of, times
from cornerdrifts.views import SIDES, seen_along


def is_above_zero(value):
    return is_fraction(value) and value[0] > 0


def is_base(value):
    """Whether any value is a fraction above 0 and below 1, as powers are taken of."""
    return is_fraction(value) and 0 < value[0] < value[1]


def mean_power(steps, base):
    """The mean of base to the power of what the short queue gains."""
    return mean_of([(power(base, short), chance) for _, short, chance in steps])


def mean_gain(steps, base):
    """The mean of what the long queue gains, times that power; 0 if it is below 0."""
    return greater(ZERO, mean_of([(times((long, 1), power(base, short)), chance) for long, short, chance in steps]))


def is_yes(book, value):
    """Whether any value is a yes paper that is right of the book, plain or not."""
    if not isinstance(value, tuple) or len(value) != 8 or not is_shape(value[:7]) or not is_integer(value[7]):
        return False
    least = least_corner(book, value[:7])
    return least is not None and least <= value[7]


def is_shape(values):
    """Whether seven values of any kind are a shape whose sum is never below 0."""
    u, v, w, c, r, d, s = values
    if not (is_above_zero(u) and is_above_zero(v) and is_fraction(w)):
        return False
    if not (is_from_zero(c) and is_base(r) and is_from_zero(d) and is_base(s)):
        return False
    return w[0] >= 0 or is_below(times(w, w), times(u, v))


def turned(shape):
    """The shape with both queues exchanged."""
    u, v, w, c, r, d, s = shape
    return (v, u, w, d, s, c, r)


def least_corner(book, shape):
    """The least corner with which the shape is a right yes paper, None if there is none."""
    along_first = corner_along(book, "first", shape)
    along_second = corner_along(book, "second", turned(shape))
    if along_first is None or along_second is None:
        return None
    return max(1, along_first, along_second)


def corner_along(book, side, shape):
    """The least corner that one side asks for, None if the sum does not fall far along it."""
    inside, beside, _ = seen_along(book, side)
    _, _, _, c, r, _, _ = shape
    if c != ZERO and is_below(ONE, mean_power(inside, r)):
        return None
    slope, beside_slope = square_slope(inside, shape), slope_beside(beside, shape)
    if slope[0] >= 0 or beside_slope[0] >= 0:
        return None
    # Out of a corner n the long queue has n or more inside, where the short one has 1, and n + 1 or more beside.
    return max(falls_from(slope, rest_inside(inside, shape)), falls_from(beside_slope, rest_beside(beside, shape)) - 1)


def falls_from(slope, rest):
    """The least integer that, times the slope, which is below 0, and with the rest added, is at most -1."""
    return rounded_up(divided(added(rest, ONE), negative(slope)))


def square_slope(steps, shape):
    """What the mean change of the sum's part without powers has for each one in the long queue."""
    u, _, w, _, _, _, _ = shape
    long, short = drift_of(steps)
    return times(TWO, added(times(u, long), times(w, short)))


def slope_beside(beside, shape):
    """What the mean change beside the side has for each one in the long queue."""
    _, _, _, c, r, _, _ = shape
    return less(square_slope(beside, shape), times(c, less(ONE, mean_power(beside, r))))


def rest_inside(inside, shape):
    """What the mean change inside has at the most, beside the long queue's part, where the short one has 1."""
    _, _, _, c, r, d, s = shape
    swayed = added(times(times(c, r), mean_gain(inside, r)), times(times(d, s), mean_gain(mirrored(inside), s)))
    return sum_of([square_slope(mirrored(inside), turned(shape)), mean_bend(inside, shape), swayed])


def rest_beside(beside, shape):
    """What the mean change beside the side has at the most, beside the long queue's part."""
    _, _, _, c, r, d, _ = shape
    _, short = drift_of(beside)
    return sum_of([mean_bend(beside, shape), times(c, mean_gain(beside, r)), times(d, short)])


def mean_bend(steps, shape):
    """The mean of the squares' sum of what both queues gain."""
    return mean_of([(square_sum(shape, long, short), chance) for long, short, chance in steps])


def square_sum(shape, x, y):
    """The part of the shape's sum that has no powers."""
    u, v, w, _, _, _, _ = shape
    return sum_of([times(u, (x * x, 1)), times(v, (y * y, 1)), times(w, (2 * x * y, 1))])


def is_no(book, value):
    """Whether any value is a no paper that is right of the book."""
    if not isinstance(value, tuple):
        return False
    if len(value) == 3 and value[0] == "inner":
        return is_inner(book, value[1], value[2])
    if len(value) == 5 and value[0] == "along" and value[1] in SIDES:
        return is_along(book, value[1], value[2:])
    return False


def is_inner(book, r, s):
    """Whether r and s, of any kind, make a right inner paper."""
    if not (is_base(r) and is_base(s)):
        return False
    across, along = drift_of(book.inside)
    if across[0] <= 0 or along[0] <= 0:
        return False
    return not is_below(ONE, mean_power(mirrored(book.inside), r)) and not is_below(ONE, mean_power(book.inside, s))


def is_along(book, side, values):
    """Whether three values of any kind make a right paper along this side."""
    b, c, s = values
    if not (is_from_zero(b) and is_from_zero(c) and is_base(s)):
        return False
    inside, beside, _ = seen_along(book, side)
    deep = rise(inside, b)
    brink = added(deep, times(times(c, s), less(ONE, mean_power(inside, s))))
    edge = added(rise(beside, b), times(c, less(ONE, mean_power(beside, s))))
    return deep[0] >= 0 and brink[0] >= 0 and edge[0] >= 0


def rise(steps, b):
    """The mean of what the long queue gains, less b times that of the short one."""
    long, short = drift_of(steps)
    return less(long, times(b, short))
