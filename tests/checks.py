"""What sections 5 to 8 of the document tell, worked out by Fractions and in its own words."""

from fractions import Fraction
from random import Random

from tests.samples import chances, random_book, steered_book


def mean(steps, what):
    """The mean of what(i, j) over a region's steps."""
    return sum((chance * what(i, j) for (i, j), chance in chances(steps).items()), Fraction(0))


def drifts(one):
    """M, A and B."""
    return [
        (mean(steps, lambda i, j: i), mean(steps, lambda i, j: j)) for steps in (one.inside, one.first, one.second)
    ]


def both_turns(one):
    (mx, my), (ax, ay), (bx, by) = drifts(one)
    return ay * mx - ax * my, bx * my - by * mx


def is_plain(one):
    (mx, my), (_, ay), (bx, _) = drifts(one)
    first_turn, second_turn = both_turns(one)
    if 0 in (mx, my, ay, bx):
        return False
    return not (my < 0 and first_turn == 0) and not (mx < 0 and second_turn == 0)


def kind(one):
    """The signs of the drift inside, and those of the turns that are asked."""
    (mx, my), _, _ = drifts(one)
    first_turn, second_turn = both_turns(one)
    return (mx > 0, my > 0, first_turn > 0 if my < 0 else None, second_turn > 0 if mx < 0 else None)


def comes_home(one):
    mx_above, my_above, first_above, second_above = kind(one)
    return not (mx_above and my_above) and not first_above and not second_above


KINDS = [
    (False, False, False, False), (False, False, False, True), (False, False, True, False), (False, False, True, True),
    (False, True, None, False), (False, True, None, True), (True, False, False, None), (True, False, True, None),
    (True, True, None, None),
]


def random_drift(random, low_x, low_y):
    """A drift for steered steps, of numbers up to 1/8, not 0."""
    return tuple(
        Fraction(random.randint(1, 60) * (random.choice((-1, 1)) if low < 0 else 1), 480) for low in (low_x, low_y)
    )


def random_steered(random):
    drifts_told = [random_drift(random, low_x, low_y) for low_x, low_y in ((-1, -1), (-1, 0), (0, -1))]
    return steered_book(*drifts_told, long=random.random() < 0.5)


def plain_books(seed, many):
    """So many plain books of each kind."""
    random = Random(seed)
    found = {one_kind: [] for one_kind in KINDS}
    while min(len(books) for books in found.values()) < many:
        one = random_book(random) if random.random() < 0.5 else random_steered(random)
        if is_plain(one):
            found[kind(one)].append(one)
    return [one for one_kind in KINDS for one in found[one_kind][:many]]


def home_books(seed, many):
    """Plain books that come home, so many of each kind."""
    return [one for one in plain_books(seed, many) if comes_home(one)]


def away_books(seed, many):
    return [one for one in plain_books(seed, many) if not comes_home(one)]


def turned_books(size):
    """Books whose asked turns are this Fraction, told for both signs, times the drifts inside, or almost so."""
    found = []
    for mx, my in ((-1, -1), (-1, 1), (1, -1)):
        for first_sign, second_sign in ((-1, -1), (-1, 1), (1, -1), (1, 1)):
            mean_x, mean_y = Fraction(mx, 8), Fraction(my, 9)
            ay, bx = Fraction(1, 11), Fraction(1, 13)
            ax = (ay * mean_x - first_sign * size) / mean_y
            by = (bx * mean_y - second_sign * size) / mean_x
            found.append(steered_book((mean_x, mean_y), (ax, ay), (bx, by), long=first_sign == second_sign))
    return found


def is_fraction(value):
    if not (isinstance(value, tuple) and len(value) == 2 and all(type(number) is int for number in value)):
        return False
    return value[1] > 0 and (Fraction(*value).numerator, Fraction(*value).denominator) == value


def yes_numbers(one, paper):
    """a, b, k, a', k', b', k'' of a yes paper."""
    u, v, w, c, r, d, s = [Fraction(*part) for part in paper[:7]]
    (mx, my), (ax, ay), (bx, by) = drifts(one)

    def bend(steps):
        return mean(steps, lambda i, j: u * i * i + v * j * j + 2 * w * i * j)

    def above(number):
        return max(number, Fraction(0))

    a, b = 2 * (u * mx + w * my), 2 * (v * my + w * mx)
    a1 = 2 * (u * ax + w * ay) - c * (1 - mean(one.first, lambda i, j: r ** j))
    b1 = 2 * (v * by + w * bx) - d * (1 - mean(one.second, lambda i, j: s ** i))
    k = bend(one.inside) + c * r * above(mean(one.inside, lambda i, j: i * r ** j))
    k = k + d * s * above(mean(one.inside, lambda i, j: j * s ** i))
    k1 = bend(one.first) + c * above(mean(one.first, lambda i, j: i * r ** j)) + d * ay
    k2 = bend(one.second) + c * bx + d * above(mean(one.second, lambda i, j: j * s ** i))
    return a, b, k, a1, k1, b1, k2


def is_right_yes(one, paper):
    """Whether any value is a right yes paper, row by row as section 6 has it."""
    if not isinstance(paper, tuple) or len(paper) != 8 or not all(is_fraction(part) for part in paper[:7]):
        return False
    n = paper[7]
    if type(n) is not int or n < 1:
        return False
    u, v, w, c, r, d, s = [Fraction(*part) for part in paper[:7]]
    if not (u > 0 and v > 0 and c >= 0 and d >= 0 and (w >= 0 or w * w < u * v) and 0 < r < 1 and 0 < s < 1):
        return False
    if c != 0 and mean(one.inside, lambda i, j: r ** j) > 1 or d != 0 and mean(one.inside, lambda i, j: s ** i) > 1:
        return False
    a, b, k, a1, k1, b1, k2 = yes_numbers(one, paper)
    if not (a < 0 and b < 0 and a1 < 0 and b1 < 0):
        return False
    inside = a * n + b + k <= -1 and a + b * n + k <= -1
    return inside and a1 * (n + 1) + k1 <= -1 and b1 * (n + 1) + k2 <= -1


def is_right_no(one, paper):
    """Whether any value is a right no paper."""
    (mx, my), (ax, ay), (bx, by) = drifts(one)
    if not isinstance(paper, tuple) or not paper or not isinstance(paper[0], str):
        return False
    if len(paper) == 3 and paper[0] == "inner" and is_fraction(paper[1]) and is_fraction(paper[2]):
        r, s = Fraction(*paper[1]), Fraction(*paper[2])
        if not (0 < r < 1 and 0 < s < 1 and mx > 0 and my > 0):
            return False
        return mean(one.inside, lambda i, j: r ** i) <= 1 and mean(one.inside, lambda i, j: s ** j) <= 1
    if not (len(paper) == 5 and paper[0] == "along" and all(is_fraction(part) for part in paper[2:])):
        return False
    b, c, s = [Fraction(*part) for part in paper[2:]]
    if not (b >= 0 and c >= 0 and 0 < s < 1):
        return False
    if paper[1] == "second":
        t = mean(one.inside, lambda i, j: s ** i)
        rows = (my - b * mx, my - b * mx + c * s * (1 - t))
        return min(*rows, by - b * bx + c * (1 - mean(one.second, lambda i, j: s ** i))) >= 0
    if paper[1] == "first":
        t = mean(one.inside, lambda i, j: s ** j)
        rows = (mx - b * my, mx - b * my + c * s * (1 - t))
        return min(*rows, ax - b * ay + c * (1 - mean(one.first, lambda i, j: s ** j))) >= 0
    return False


def region_steps(one, x, y):
    if x > 0:
        return one.inside if y > 0 else one.first
    return one.second if y > 0 else one.none


def sum_at(paper, x, y):
    u, v, w, c, r, d, s = [Fraction(*part) for part in paper[:7]]
    found = u * x * x + v * y * y + 2 * w * x * y
    # A huge power of a fraction would only be worked out to be left away.
    return found + (c * x * r ** y if c else 0) + (d * y * s ** x if d else 0)


def change_at(paper, one, x, y):
    """By how much the sum grows in the mean in one tick."""
    steps = region_steps(one, x, y)
    return mean(steps, lambda i, j: sum_at(paper, x + i, y + j)) - sum_at(paper, x, y)


def height_at(paper, x, y):
    """The height of a no paper along a side."""
    b, c, s = [Fraction(*part) for part in paper[2:]]
    long, short = (x, y) if paper[1] == "first" else (y, x)
    return long - b * short + c - (c * s ** short if c else 0)


def rise_at(paper, one, x, y):
    """By how much that height grows in the mean in one tick."""
    return mean(region_steps(one, x, y), lambda i, j: height_at(paper, x + i, y + j)) - height_at(paper, x, y)
