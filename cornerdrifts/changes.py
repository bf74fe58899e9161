"""A chance that is moved from one step of a region to another, and the amounts with which the walk comes home."""

from math import lcm

from cornerdrifts.books import MOST_STEPS, REGIONS, book_of, find_chance, may_step, steps_of
from cornerdrifts.drifts import drifts_of, told_by, turns_by
from cornerdrifts.errors import BadAmount, BadStep, Full
from cornerdrifts.exact import HALF, ZERO, added, divided, is_below, is_from_zero, less, lowest, times

DRIFTING = ("inside", "first", "second")


def moved(book, region, step, other, amount):
    """The book in which so much of the step's chance is the other one's."""
    chance = chance_to_move(book, region, step, other)
    if not is_from_zero(amount) or is_below(chance, amount):
        raise BadAmount(amount)
    if amount == ZERO:
        return book
    steps = moved_steps(steps_of(book, region), step, other, amount)
    if len(steps) > MOST_STEPS:
        raise Full(region)
    return book_of([steps if name == region else steps_of(book, name) for name in REGIONS])


def home_amounts(book, region, step, other):
    """The stretches (low, high, is low in, is high in) of all amounts with which the walk comes home."""
    chance = chance_to_move(book, region, step, other)
    steps = steps_of(book, region)
    if len(steps) == MOST_STEPS and find_chance(steps, other[0], other[1]) == ZERO:
        raise Full(region)
    ahead = drifts_of(book)
    behind = drifts_moved(ahead, region, step, other, chance)
    bounds = ascending([ZERO, chance] + zeros_between(ahead, behind, chance))

    def is_home(amount):
        return told_by(drifts_moved(ahead, region, step, other, amount)) == "home"

    return stretches(bounds, is_home)


def chance_to_move(book, region, step, other):
    """The chance of the step, from which some may be moved to the other one."""
    steps = steps_of(book, region)
    if not is_step(step, region) or find_chance(steps, step[0], step[1]) == ZERO:
        raise BadStep(step)
    if not is_step(other, region) or other == step:
        raise BadStep(other)
    return find_chance(steps, step[0], step[1])


def is_step(value, region):
    """Whether any value is a tuple (i, j) that can stand in the region."""
    return isinstance(value, tuple) and len(value) == 2 and may_step(region, value[0], value[1])


def moved_steps(steps, step, other, amount):
    """The steps, so much of one's chance moved to the other one."""
    found = []
    for i, j, chance in steps:
        if (i, j) == step:
            chance = less(chance, amount)
        elif (i, j) == other:
            chance = added(chance, amount)
        if chance != ZERO:
            found.append((i, j, chance))
    if find_chance(steps, other[0], other[1]) == ZERO:
        found.append((other[0], other[1], amount))
    return found


def drifts_moved(drifts, region, step, other, amount):
    """The drifts inside, in first and in second, with this amount moved within a region."""
    found = []
    for name, (across, along) in zip(DRIFTING, drifts):
        if name == region:
            across = added(across, times((other[0] - step[0], 1), amount))
            along = added(along, times((other[1] - step[1], 1), amount))
        found.append((across, along))
    return tuple(found)


def zeros_between(ahead, behind, chance):
    """The amounts above 0 and below the chance at which something is 0 that tells borders and signs."""
    found = []
    for begin, end in zip(telling_numbers(ahead), telling_numbers(behind)):
        # Each goes in a straight line, so it is 0 in between exactly if its ends have different signs.
        if begin[0] * end[0] < 0:
            found.append(times(chance, divided(begin, less(begin, end))))
    return found


def telling_numbers(drifts):
    """The numbers whose signs tell the border, and whether the walk comes home."""
    (inside_x, inside_y), (_, first_y), (second_x, _) = drifts
    first_turn, second_turn = turns_by(drifts)
    return (inside_x, inside_y, first_y, second_x, first_turn, second_turn)


def ascending(fractions):
    """Some fractions by their size, without duplicates."""
    whole = 1
    for _, bottom in fractions:
        whole = lcm(whole, bottom)
    tops = sorted(set([top * (whole // bottom) for top, bottom in fractions]))
    return [lowest(top, whole) for top in tops]


def stretches(bounds, holds):
    """The stretches in which something holds, which between two neighbouring bounds holds for all or for none."""
    found = []
    for low, high in zip(bounds, bounds[1:]):
        if not holds(times(added(low, high), HALF)):
            continue
        begun, is_begun_in = low, holds(low)
        # The stretch ahead ends here, and what holds on both sides of low holds for low, too.
        if is_begun_in and found and found[-1][1] == low:
            begun, _, is_begun_in, _ = found.pop()
        found.append((begun, high, is_begun_in, holds(high)))
    return tuple(found)
