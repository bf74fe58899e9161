"""Weights of all pairs that are told by powers, and whether one tick leaves them as they are."""

from cornerdrifts.books import REGIONS, is_pair, region_at, steps_of
from cornerdrifts.errors import BadPair, BadTable, Loads
from cornerdrifts.exact import ONE, ZERO, added, divided, is_below, is_from_zero, less, power, sum_of, times
from cornerdrifts.makes import loads

GREATEST = 40
# A table is steady if the balances of all pairs up to this one are 0.
CHECKED = 5


def whole(table):
    """The sum of all weights."""
    check_table(table)
    (c, a, b), (f, p), (g, q), h = table
    inside = times(c, times(sum_of_powers(a), sum_of_powers(b)))
    return sum_of([inside, times(f, sum_of_powers(p)), times(g, sum_of_powers(q)), h])


def balance(book, table, pair):
    """What one tick adds to the weight of a pair."""
    check_table(table)
    if not is_pair(pair, GREATEST):
        raise BadPair(pair)
    return balance_at(book, table, pair)


def is_steady(book, table):
    """("steady",) if one tick leaves all weights as they are, else ("off", a pair that it does not)."""
    check_table(table)
    for pair in checked_pairs():
        if balance_at(book, table, pair) != ZERO:
            return ("off", pair)
    return ("steady",)


def product_of_loads(a, b, m, k, p, q):
    """The steady table of two queues that hand on, which is told by their loads and whose whole is 1."""
    one, other = loads(a, b, m, k, p, q)
    if not (is_below(one, ONE) and is_below(other, ONE)):
        raise Loads((one, other))
    constant = times(less(ONE, one), less(ONE, other))
    return ((constant, one, other), (constant, one), (constant, other), constant)


def check_table(value):
    """Raise unless any value is a table."""
    if not is_table(value):
        raise BadTable(value)


def is_table(value):
    if not isinstance(value, tuple) or len(value) != 4:
        return False
    inside, first, second, none = value
    return is_row(inside, 2) and is_row(first, 1) and is_row(second, 1) and is_from_zero(none)


def is_row(value, many):
    """Whether any value is a factor and so many bases below 1."""
    if not isinstance(value, tuple) or len(value) != 1 + many:
        return False
    if not all([is_from_zero(part) for part in value]):
        return False
    return all([is_below(base, ONE) for base in value[1:]])


def sum_of_powers(base):
    """The sum of all powers of a base below 1, from the first one on."""
    return divided(base, less(ONE, base))


def weight_at(table, pair):
    """The weight that a table tells of a pair."""
    x, y = pair
    (c, a, b), (f, p), (g, q), h = table
    region = region_at(pair)
    if region == "inside":
        return times(c, times(power(a, x), power(b, y)))
    if region == "first":
        return times(f, power(p, x))
    if region == "second":
        return times(g, power(q, y))
    return h


def balance_at(book, table, pair):
    x, y = pair
    coming = ZERO
    for region in REGIONS:
        for i, j, chance in steps_of(book, region):
            source = (x - i, y - j)
            if min(source) >= 0 and region_at(source) == region:
                coming = added(coming, times(weight_at(table, source), chance))
    return less(coming, weight_at(table, pair))


def checked_pairs():
    """All pairs that are asked for their balances, those whose greater number is less first."""
    numbers = range(CHECKED + 1)
    return sorted([(x, y) for x in numbers for y in numbers], key=lambda pair: (max(pair), pair))
