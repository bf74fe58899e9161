"""Walks tick by tick: where they stand behind some ticks, and how long they last above a corner.

Chances are worked out as whole numbers over one bottom, which each tick makes greater, and told in least terms.
"""

from math import lcm

from cornerdrifts.books import REGIONS, is_pair, region_at, steps_of
from cornerdrifts.errors import BadCorner, BadPair, BadPaper, BadTicks
from cornerdrifts.exact import ONE, ZERO, is_integer, less, lowest, sum_of
from cornerdrifts.home import FAREST, sum_at
from cornerdrifts.papers import is_yes

MOST_TICKS = 8
GREATEST = 10 ** 6


def after(book, pair, ticks):
    """All pairs at which a walk can stand behind some ticks, with their chances."""
    spread, whole = spread_after(book, pair, ticks)
    return tuple([(place, lowest(spread[place], whole)) for place in sorted(spread)])


def means_after(book, pair, ticks):
    """The means of x and of y behind some ticks."""
    spread, whole = spread_after(book, pair, ticks)
    mean_x = lowest(sum([x * weight for (x, _), weight in spread.items()]), whole)
    mean_y = lowest(sum([y * weight for (_, y), weight in spread.items()]), whole)
    return (mean_x, mean_y)


def home_by(book, pair, corner, ticks):
    """The chance that a walk is not above the corner at one at least of the ticks up to this one."""
    check_stay(pair, corner, ticks)
    return less(ONE, staying(book, pair, corner, ticks + 1)[ticks])


def lasting(book, pair, corner, ticks):
    """The mean number of ticks, counted up to these, until a walk is not above the corner."""
    check_stay(pair, corner, ticks)
    return sum_of(staying(book, pair, corner, ticks))


def between(book, pair, paper, ticks):
    """Bounds, by these ticks and by a right yes paper, of the mean number of ticks to the paper's corner."""
    if not is_pair(pair, FAREST):
        raise BadPair(pair)
    if not is_yes(book, paper):
        raise BadPaper(paper)
    check_ticks(ticks)
    # A paper's corner may be greater than one that is told to lasting.
    corner = paper[7]
    if not is_above(pair, corner):
        return (ZERO, ZERO)
    return (sum_of(staying(book, pair, corner, ticks)), sum_at(paper, pair))


def check_pair(pair):
    if not is_pair(pair, GREATEST):
        raise BadPair(pair)


def check_ticks(ticks):
    if not is_integer(ticks) or not 0 <= ticks <= MOST_TICKS:
        raise BadTicks(ticks)


def check_stay(pair, corner, ticks):
    """Raise unless these are a pair, a corner and ticks."""
    check_pair(pair)
    if not is_integer(corner) or not 0 <= corner <= GREATEST:
        raise BadCorner(corner)
    check_ticks(ticks)


def is_above(pair, corner):
    x, y = pair
    return x + y > corner


def spread_after(book, pair, ticks):
    """The weights of all pairs behind some ticks, and what they add up to."""
    check_pair(pair)
    check_ticks(ticks)
    weights, bottom = weighted_steps(book)
    spread, whole = {pair: 1}, 1
    for _ in range(ticks):
        spread, whole = one_tick(spread, weights), whole * bottom
    return (spread, whole)


def staying(book, pair, corner, many):
    """The chances that a walk is above the corner at each of the ticks 0 to k, for the first ones of all k."""
    weights, bottom = weighted_steps(book)
    spread, whole = above({pair: 1}, corner), 1
    found = [lowest(sum(spread.values()), whole)]
    while len(found) < many:
        spread, whole = above(one_tick(spread, weights), corner), whole * bottom
        found.append(lowest(sum(spread.values()), whole))
    return found[:many]


def weighted_steps(book):
    """The steps of all regions with chances as whole numbers, and the bottom that they share."""
    bottom = 1
    for region in REGIONS:
        for _, _, chance in steps_of(book, region):
            bottom = lcm(bottom, chance[1])
    weights = {}
    for region in REGIONS:
        steps = steps_of(book, region)
        weights[region] = [(i, j, chance[0] * (bottom // chance[1])) for i, j, chance in steps]
    return (weights, bottom)


def one_tick(spread, weights):
    """The weights of all pairs one tick later."""
    found = {}
    for (x, y), weight in spread.items():
        for i, j, part in weights[region_at((x, y))]:
            place = (x + i, y + j)
            found[place] = found.get(place, 0) + weight * part
    return found


def above(spread, corner):
    """The weights of the pairs above the corner."""
    return {place: weight for place, weight in spread.items() if is_above(place, corner)}
