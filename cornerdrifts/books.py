"""Books: what happens in one tick, by chances, in each of the four regions."""

from cornerdrifts.errors import BadBook, BadPair, BadShare, BadStep, Full, NoRegion
from cornerdrifts.exact import ONE, ZERO, added, is_fraction, is_integer, less, read_fraction, read_integer
from cornerdrifts.exact import sum_of, times, written

REGIONS = ("inside", "first", "second", "none")
MOST_STEPS = 12
LONGEST = 10 ** 9
STILL = "book\ninside\nstep 0 0 1\nfirst\nstep 0 0 1\nsecond\nstep 0 0 1\nnone\nstep 0 0 1"


class Book:
    """A book; it raises BadBook with the number of the line at fault."""

    def __init__(self, text):
        if not isinstance(text, str):
            raise BadBook(0)
        inside, first, second, none = read_regions(text.split("\n"))
        self.text = text
        self.inside = inside
        self.first = first
        self.second = second
        self.none = none

    def __eq__(self, other):
        return isinstance(other, Book) and self.text == other.text

    def __len__(self):
        return len(self.inside + self.first + self.second + self.none)


def read_regions(lines):
    """The steps of all regions, in the sequence of the regions."""
    if lines[0] != "book":
        raise BadBook(1)
    found = []
    last_lines = []
    for number, line in enumerate(lines[1:], start=2):
        if len(found) < len(REGIONS) and line == REGIONS[len(found)]:
            found.append([])
            last_lines.append(number)
        elif found:
            found[-1].append(read_step(line, number, REGIONS[len(found) - 1], found[-1]))
            last_lines[-1] = number
        else:
            raise BadBook(number)
    check_chances(found, last_lines, len(lines))
    return [tuple(steps) for steps in found]


def read_step(line, number, region, ahead):
    """The step of a region's line, behind those that the region has ahead of it."""
    words = line.split(" ")
    if len(words) != 4 or words[0] != "step":
        raise BadBook(number)
    i, j, chance = read_integer(words[1]), read_integer(words[2]), read_fraction(words[3])
    if not may_step(region, i, j) or chance is None or chance[0] <= 0:
        raise BadBook(number)
    if len(ahead) == MOST_STEPS or find_chance(ahead, i, j) != ZERO:
        raise BadBook(number)
    return (i, j, chance)


def check_chances(found, last_lines, many_lines):
    """Raise for the first region that lacks, or whose chances do not add up to 1."""
    for at in range(len(REGIONS)):
        if at == len(found):
            raise BadBook(many_lines + 1)
        if sum_of([chance for _, _, chance in found[at]]) != ONE:
            raise BadBook(last_lines[at] + 1)


def may_step(region, i, j):
    """Whether i and j are integers that a step of this region may have."""
    # A queue that is empty cannot lose anyone.
    low_i = -1 if region in ("inside", "first") else 0
    low_j = -1 if region in ("inside", "second") else 0
    return is_integer(i) and low_i <= i <= 3 and is_integer(j) and low_j <= j <= 3


def find_chance(steps, i, j):
    """The chance of the step (i, j), 0 if it is none of the steps."""
    for step_i, step_j, chance in steps:
        if (step_i, step_j) == (i, j):
            return chance
    return ZERO


def book_of(regions):
    """The Book that has these steps, told for all regions in their sequence."""
    lines = ["book"]
    for region, steps in zip(REGIONS, regions):
        lines.append(region)
        for i, j, chance in steps:
            lines.append(f"step {i} {j} {written(chance)}")
    return Book("\n".join(lines))


def is_pair(value, longest):
    """Whether any value is a pair of lengths that are at most the longest one."""
    if not isinstance(value, tuple) or len(value) != 2:
        return False
    x, y = value
    return is_integer(x) and 0 <= x <= longest and is_integer(y) and 0 <= y <= longest


def is_share(value):
    """Whether any value is a fraction above 0, at most 1."""
    return is_fraction(value) and 0 < value[0] <= value[1]


def region_at(pair):
    """The region of a pair."""
    if not is_pair(pair, LONGEST):
        raise BadPair(pair)
    x, y = pair
    if x > 0:
        return "inside" if y > 0 else "first"
    return "second" if y > 0 else "none"


def steps_of(book, region):
    """The steps of a region, as they stand in the book."""
    if region not in REGIONS:
        raise NoRegion(region)
    if region == "inside":
        return book.inside
    if region == "first":
        return book.first
    if region == "second":
        return book.second
    return book.none


def chance_of(book, region, i, j):
    """The chance of a step that the region may have, 0 if it does not have it."""
    steps = steps_of(book, region)
    if not may_step(region, i, j):
        raise BadStep((i, j))
    return find_chance(steps, i, j)


def mirrored(steps):
    """The steps with both queues exchanged."""
    return tuple([(j, i, chance) for i, j, chance in steps])


def exchanged(book):
    """The book with both queues exchanged."""
    # What happens where only the first queue waits now happens where only the second one does.
    regions = (book.inside, book.second, book.first, book.none)
    return book_of([mirrored(steps) for steps in regions])


def slowed(book, share):
    """The book that does with this share what it did, else nothing."""
    return mixed(book, Book(STILL), share)


def mixed(one, other, share):
    """The book that does with this share what one does, else what other does."""
    if not is_share(share):
        raise BadShare(share)
    regions = [mixed_steps(steps_of(one, region), steps_of(other, region), share) for region in REGIONS]
    for region, steps in zip(REGIONS, regions):
        if len(steps) > MOST_STEPS:
            raise Full(region)
    return book_of(regions)


def mixed_steps(one, other, share):
    """One's steps, and behind them the other's that one does not have, mixed with this share."""
    # Nothing is left to other's steps then, and a step of chance 0 cannot stand.
    if share == ONE:
        return list(one)
    rest = less(ONE, share)
    steps = []
    for i, j, chance in one:
        steps.append((i, j, added(times(chance, share), times(find_chance(other, i, j), rest))))
    for i, j, chance in other:
        if find_chance(one, i, j) == ZERO:
            steps.append((i, j, times(chance, rest)))
    return steps
