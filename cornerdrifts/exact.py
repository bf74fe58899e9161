"""Integers and fractions (top, bottom) in least terms, and the words that texts have for them."""

from math import gcd

ZERO = (0, 1)
ONE = (1, 1)


def is_integer(value):
    """Whether any value is an integer; True and False are none."""
    return isinstance(value, int) and not isinstance(value, bool)


def is_fraction(value):
    """Whether any value is a fraction in least terms, its bottom from 1 on."""
    if not isinstance(value, tuple) or len(value) != 2:
        return False
    top, bottom = value
    return is_integer(top) and is_integer(bottom) and bottom > 0 and gcd(top, bottom) == 1


def lowest(top, bottom):
    """The fraction top / bottom in least terms; bottom is above 0."""
    shared = gcd(top, bottom)
    return (top // shared, bottom // shared)


def added(one, other):
    return lowest(one[0] * other[1] + other[0] * one[1], one[1] * other[1])


def less(one, other):
    return lowest(one[0] * other[1] - other[0] * one[1], one[1] * other[1])


def times(one, other):
    return lowest(one[0] * other[0], one[1] * other[1])


def sum_of(fractions):
    total = ZERO
    for fraction in fractions:
        total = added(total, fraction)
    return total


def written(fraction):
    """The fraction as texts write it."""
    top, bottom = fraction
    if bottom == 1:
        return str(top)
    return f"{top}/{bottom}"


def read_integer(word):
    """The integer that Python writes so, None if there is none."""
    digits = word.removeprefix("-")
    if not (digits.isascii() and digits.isdigit()):
        return None
    if digits.startswith("0") and word != "0":
        return None
    return int(word)


def read_fraction(word):
    """The fraction that texts write so, None if there is none."""
    top_word, slash, bottom_word = word.partition("/")
    top = read_integer(top_word)
    bottom = read_integer(bottom_word) if slash else 1
    # A bottom of 1 stands in no text.
    if (slash and bottom == 1) or not is_fraction((top, bottom)):
        return None
    return (top, bottom)
