"""Books that are made of a few numbers: one hand, two hands, and queues that hand their works on."""

from cornerdrifts.books import book_of, is_share
from cornerdrifts.errors import BadChances, BadShare, Loop
from cornerdrifts.exact import ONE, ZERO, added, divided, is_below, is_from_zero, less, sum_of, times


def one_hand(a, b, m, e, g, share):
    """The book of one hand, which tries the first queue with this share if both wait."""
    check_hand(a, b, m, e, g)
    check_part(share)
    inside = [(-1, 0, times(m, times(share, e))), (0, -1, times(m, times(less(ONE, share), g)))]
    return made_book(a, b, inside, [(-1, 0, times(m, e))], [(0, -1, times(m, g))])


def load_of_hand(a, b, m, e, g):
    """The share of what one hand can do that comes."""
    check_hand(a, b, m, e, g)
    return added(divided(a, times(m, e)), divided(b, times(m, g)))


def two_hands(a, b, m, k, aid):
    """The book of two hands, each of which aids the other one if its own queue is empty."""
    check_chances((a, b, m, k))
    check_part(aid)
    first = [(-1, 0, added(m, times(aid, k)))]
    second = [(0, -1, added(k, times(aid, m)))]
    return made_book(a, b, [(-1, 0, m), (0, -1, k)], first, second)


def handed_on(a, b, m, k, p, q):
    """The book of two queues that hand on parts of what is done to each other."""
    check_handing(a, b, m, k, p, q)
    from_first = [(-1, 1, times(m, p)), (-1, 0, times(m, less(ONE, p)))]
    from_second = [(1, -1, times(k, q)), (0, -1, times(k, less(ONE, q)))]
    return made_book(a, b, from_first + from_second, from_first, from_second)


def loads(a, b, m, k, p, q):
    """The loads of both queues, with what is handed on."""
    check_handing(a, b, m, k, p, q)
    # Of what comes to a queue, so much does not come back to it.
    away = less(ONE, times(p, q))
    one = divided(added(a, times(q, b)), away)
    other = divided(added(b, times(p, a)), away)
    return (divided(one, m), divided(other, k))


def check_hand(a, b, m, e, g):
    """Raise unless these are chances, and how often a hand is done with what it tries."""
    check_chances((a, b, m))
    for done in (e, g):
        if not is_share(done):
            raise BadShare(done)


def check_handing(a, b, m, k, p, q):
    """Raise unless these are chances and parts that are handed on, not all of both."""
    check_chances((a, b, m, k))
    check_part(p)
    check_part(q)
    if p == ONE and q == ONE:
        raise Loop(None)


def check_chances(values):
    """Raise unless these values, of any kind, are chances that add up to 1."""
    if not all([is_share(value) for value in values]) or sum_of(values) != ONE:
        raise BadChances(values)


def check_part(value):
    """Raise unless any value is a fraction from 0 to 1."""
    if not is_from_zero(value) or is_below(ONE, value):
        raise BadShare(value)


def made_book(a, b, inside, first, second):
    """The book of what comes with the chances a and b, and of the services of the three regions that have some."""
    arrivals = [(1, 0, a), (0, 1, b)]
    return book_of([filled(arrivals + services) for services in (inside, first, second, [])])


def filled(steps):
    """The steps of chances above 0, and behind them (0, 0) with what lacks to 1."""
    found = [(i, j, chance) for i, j, chance in steps if chance != ZERO]
    rest = less(ONE, sum_of([chance for _, _, chance in found]))
    if rest != ZERO:
        found.append((0, 0, rest))
    return found
