"""Integers and fractions (top, bottom) in least terms, and the words that texts have for them."""

from math import gcd

ZERO = (0, 1)
HALF = (1, 2)
ONE = (1, 1)
TWO = (2, 1)


def is_integer(value):
    """Whether any value is an integer; True and False are none."""
    return isinstance(value, int) and not isinstance(value, bool)


def is_fraction(value):
    """Whether any value is a fraction in least terms, its bottom from 1 on."""
    if not isinstance(value, tuple) or len(value) != 2:
        return False
    top, bottom = value
    return is_integer(top) and is_integer(bottom) and bottom > 0 and gcd(top, bottom) == 1


def is_from_zero(value):
    """Whether any value is a fraction that is not below 0."""
    return is_fraction(value) and value[0] >= 0


def lowest(top, bottom):
    """The fraction top / bottom in least terms; bottom is above 0."""
    shared = gcd(top, bottom)
    return (top // shared, bottom // shared)


def added(one, other):
    return lowest(one[0] * other[1] + other[0] * one[1], one[1] * other[1])


def less(one, other):
    return lowest(one[0] * other[1] - other[0] * one[1], one[1] * other[1])


def times(one, other):
    return lowest(one[0] * other[0], one[1] * other[1])


def divided(one, other):
    """One divided by other, which is not 0."""
    top, bottom = one[0] * other[1], one[1] * other[0]
    if bottom < 0:
        top, bottom = -top, -bottom
    return lowest(top, bottom)


def negative(fraction):
    return (-fraction[0], fraction[1])


def power(base, exponent):
    """The power of a base from 0 on; the exponent is any integer, from 0 on if the base is 0."""
    top, bottom = base if exponent >= 0 else (base[1], base[0])
    power_top, power_bottom = 1, 1
    for _ in range(abs(exponent)):
        power_top, power_bottom = power_top * top, power_bottom * bottom
    # Powers of a fraction in least terms are in least terms, too.
    return (power_top, power_bottom)


def sum_of(fractions):
    total = ZERO
    for fraction in fractions:
        total = added(total, fraction)
    return total


def mean_of(outcomes):
    """The sum of outcomes, each a fraction and its chance, times their chances."""
    return sum_of([times(worth, chance) for worth, chance in outcomes])


def is_below(one, other):
    return one[0] * other[1] < other[0] * one[1]


def lesser(one, other):
    return one if is_below(one, other) else other


def greater(one, other):
    return other if is_below(one, other) else one


def rounded_down(fraction):
    return fraction[0] // fraction[1]


def rounded_up(fraction):
    return -(-fraction[0] // fraction[1])


def between(low, high):
    """A fraction of few figures that is above low and below high, not close to either."""
    width = less(high, low)
    bottom = 1
    while width[0] * bottom < 4 * width[1]:
        bottom = bottom * 2
    # Rounding down takes less than a quarter of the width from the middle.
    middle = times(added(low, high), HALF)
    return lowest(rounded_down(times(middle, (bottom, 1))), bottom)


def written(fraction):
    """The fraction as texts write it."""
    top, bottom = fraction
    if bottom == 1:
        return str(top)
    return f"{top}/{bottom}"


def read_integer(word):
    """The integer that Python writes so, None if there is none."""
    digits = word.removeprefix("-")
    if not (digits.isascii() and digits.isdigit()):
        return None
    if digits.startswith("0") and word != "0":
        return None
    return int(word)


def read_fraction(word):
    """The fraction that texts write so, None if there is none."""
    top_word, slash, bottom_word = word.partition("/")
    top = read_integer(top_word)
    bottom = read_integer(bottom_word) if slash else 1
    # A bottom of 1 stands in no text.
    if (slash and bottom == 1) or not is_fraction((top, bottom)):
        return None
    return (top, bottom)
