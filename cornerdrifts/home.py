"""Whether a walk comes home, with a paper by which this can be checked."""

from cornerdrifts.books import is_pair, mirrored, region_at, steps_of
from cornerdrifts.drifts import asked, check_plain, does_come_home, drift_of, rising
from cornerdrifts.errors import BadPair, BadPaper
from cornerdrifts.exact import HALF, ONE, TWO, ZERO, added, between, divided, is_below, less, lesser, mean_of, negative
from cornerdrifts.exact import power, rounded_down, times
from cornerdrifts.papers import is_no, is_yes, least_corner, mean_power, square_slope, square_sum, turned
from cornerdrifts.views import seen_along

FAREST = 60


def home(book):
    """("home", a right yes paper) or ("away", a right no paper); the book must be plain."""
    if does_come_home(book):
        shape = falling_shape(book)
        corner = least_corner(book, shape)
        return ("home", (*shape, corner))
    return ("away", rising_paper(book))


def shows_home(book, value):
    """Whether any value is right as what home tells of the book, which must be plain."""
    check_plain(book)
    if not isinstance(value, tuple) or len(value) != 2:
        return False
    word, paper = value
    # No plain book has right papers of both kinds, so a right one shows that the word is right, too.
    if word == "home":
        return is_yes(book, paper)
    return word == "away" and is_no(book, paper)


def worth(book, paper, pair):
    """The sum of a right yes paper at a pair."""
    check_paper(book, paper, pair)
    return sum_at(paper, pair)


def mean_change(book, paper, pair):
    """By how much the sum of a right yes paper grows in the mean in one tick from a pair."""
    check_paper(book, paper, pair)
    x, y = pair
    steps = steps_of(book, region_at(pair))
    behind = mean_of([(sum_at(paper, (x + i, y + j)), chance) for i, j, chance in steps])
    return less(behind, sum_at(paper, pair))


def check_paper(book, paper, pair):
    """Raise unless the book is plain, the paper a right yes paper of it, and the pair none that is too far."""
    check_plain(book)
    if not is_yes(book, paper):
        raise BadPaper(paper)
    if not is_pair(pair, FAREST):
        raise BadPair(pair)


def sum_at(paper, pair):
    """The sum of a yes paper at a pair."""
    x, y = pair
    _, _, _, c, r, d, s, _ = paper
    powers = added(times(times(c, (x, 1)), power(r, y)), times(times(d, (y, 1)), power(s, x)))
    return added(square_sum(paper[:7], x, y), powers)


def falling_shape(book):
    """The shape of a right yes paper of a plain book that comes home."""
    sides = asked(book)
    if sides == ("first", "second"):
        return inward_shape(book)
    # The walk leads away from the other side, along which both queues may grow.
    if sides == ("second",):
        return leading_shape(book, "first")
    return turned(leading_shape(book, "second"))


def inward_shape(book):
    """The shape where both drifts inside are below 0."""
    across, along = drift_of(book.inside)
    first_x, first_y = drift_of(book.first)
    second_x, second_y = drift_of(book.second)
    u, v = divided(along, across), divided(across, along)
    # Above -1 the sum falls inside; below the others it falls beside first, and beside second.
    beside_first = negative(times(u, divided(first_x, first_y)))
    beside_second = negative(times(v, divided(second_y, second_x)))
    w = between(negative(ONE), lesser(ONE, lesser(beside_first, beside_second)))
    return (u, v, w, ZERO, HALF, ZERO, HALF)


def leading_shape(book, side):
    """The shape, turned to this side, where the walk inside leads away from it, and to the other one."""
    inside, beside, other = seen_along(book, side)
    long, short = drift_of(inside)
    other_long, other_short = drift_of(other)
    u = negative(times(TWO, divided(short, long)))
    v = between(negative(divided(other_long, other_short)), negative(divided(long, short)))
    r = base_near_one(lambda base: not is_below(ONE, mean_power(inside, base)))
    slope = square_slope(beside, (u, v, ONE, ZERO, r, ZERO, HALF))
    return (u, v, ONE, weight_against(slope, beside, r), r, ZERO, HALF)


def weight_against(slope, beside, r):
    """c so that the sum falls beside a side, where its part without powers has this slope."""
    if slope[0] < 0:
        return ZERO
    held = divided(slope, less(ONE, mean_power(beside, r)))
    # Twice as much, so that the sum falls clearly.
    return (rounded_down(times(TWO, held)) + 1, 1)


def rising_paper(book):
    """A right no paper of a plain book that does not come home."""
    sides = rising(book)
    if sides == ():
        r = base_near_one(lambda base: not is_below(ONE, mean_power(mirrored(book.inside), base)))
        s = base_near_one(lambda base: not is_below(ONE, mean_power(book.inside, base)))
        return ("inner", r, s)
    b, c, s = rising_height(book, sides[0])
    return ("along", sides[0], b, c, s)


def rising_height(book, side):
    """b, c and s of a right paper along a side whose turn is asked and above 0."""
    inside, beside, _ = seen_along(book, side)
    long, short = drift_of(inside)
    beside_long, beside_short = drift_of(beside)
    if long[0] < 0:
        return (between(divided(long, short), divided(beside_long, beside_short)), ZERO, HALF)
    if beside_long[0] >= 0:
        return (ZERO, ZERO, HALF)
    # c has to make up for what the long queue loses beside the side, and to cost no more than it gains inside.
    s = base_near_one(lambda base: is_below(least_lift(beside, base), most_lift(inside, base)))
    return (ZERO, between(least_lift(beside, s), most_lift(inside, s)), s)


def least_lift(beside, s):
    """The c with which the height stays beside a side where the long queue falls."""
    long, _ = drift_of(beside)
    return divided(negative(long), less(ONE, mean_power(beside, s)))


def most_lift(inside, s):
    """The c with which the height stays inside, where the short queue has 1 and falls, and the long one grows."""
    long, _ = drift_of(inside)
    return divided(long, times(s, less(mean_power(inside, s), ONE)))


def base_near_one(holds):
    """The first of 1/2, 3/4, 7/8, 15/16 .. that holds, as all behind it do then, too."""
    high = 1
    while not holds(base_at(high)):
        high = high * 2
    low = high // 2
    while high - low > 1:
        middle = (low + high) // 2
        if holds(base_at(middle)):
            high = middle
        else:
            low = middle
    return base_at(high)


def base_at(number):
    bottom = 1 << number
    return (bottom - 1, bottom)
