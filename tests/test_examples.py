"""The examples of the document, as they stand there."""

import doctest
import unittest

SECTION_4 = r"""
>>> from cornerdrifts.books import Book, chance_of, exchanged, mixed, region_at, slowed, steps_of
>>> rows = ['book', 'inside', 'step 1 0 1/4', 'step -1 1 1/2', 'step 0 -1 1/4', 'first', 'step 1 0 1/2', 'step -1 1 1/2']
>>> queue = Book('\n'.join(rows + ['second', 'step 1 0 1/3', 'step 0 -1 2/3', 'none', 'step 1 0 1/2', 'step 0 0 1/2']))
>>> [queue.inside, queue.second, len(queue)]
[((1, 0, (1, 4)), (-1, 1, (1, 2)), (0, -1, (1, 4))), ((1, 0, (1, 3)), (0, -1, (2, 3))), 9]
>>> [[region_at(pair) for pair in ((4, 1), (4, 0), (0, 1), (0, 0))], steps_of(queue, 'none')]
[['inside', 'first', 'second', 'none'], ((1, 0, (1, 2)), (0, 0, (1, 2)))]
>>> [chance_of(queue, 'inside', -1, 1), chance_of(queue, 'first', 0, 0)]
[(1, 2), (0, 1)]
>>> [exchanged(queue).first, exchanged(queue).none, exchanged(exchanged(queue)) == queue]
[((0, 1, (1, 3)), (-1, 0, (2, 3))), ((0, 1, (1, 2)), (0, 0, (1, 2))), True]
>>> [slowed(queue, (1, 2)).second, slowed(queue, (1, 2)).none, slowed(queue, (1, 1)) == queue]
[((1, 0, (1, 6)), (0, -1, (1, 3)), (0, 0, (1, 2))), ((1, 0, (1, 4)), (0, 0, (3, 4))), True]
>>> mixed(queue, exchanged(queue), (1, 3)).first
((1, 0, (1, 6)), (-1, 1, (1, 6)), (0, 1, (2, 9)), (-1, 0, (4, 9)))
>>> [mixed(queue, exchanged(queue), (1, 1)) == queue, mixed(queue, queue, (1, 5)) == queue]
[True, True]
"""

SECTION_5 = r"""
>>> from cornerdrifts.books import Book, exchanged
>>> from cornerdrifts.drifts import asked, border, does_come_home, drift, turns
>>> rows = ['book', 'inside', 'step 1 0 1/5', 'step -1 1 1/2', 'step 0 -1 3/10', 'first', 'step 1 0 1/5', 'step -1 1 1/2', 'step 0 0 3/10']
>>> line = Book('\n'.join(rows + ['second', 'step 1 0 1/5', 'step 0 -1 3/10', 'step 0 0 1/2', 'none', 'step 1 0 1/5', 'step 0 0 4/5']))
>>> [drift(line, region) for region in ('inside', 'first', 'second', 'none')]
[((-3, 10), (1, 5)), ((-3, 10), (1, 2)), ((1, 5), (-3, 10)), ((1, 5), (0, 1))]
>>> [turns(line), border(line), asked(line), does_come_home(line)]
[((-9, 100), (-1, 20)), None, ('second',), True]
>>> [turns(exchanged(line)), asked(exchanged(line)), does_come_home(exchanged(line))]
[((-1, 20), (-9, 100)), ('first',), True]
>>> rows = ['book', 'inside', 'step -1 0 3/10', 'step 1 0 1/5', 'step 0 -1 3/10', 'step 0 1 1/5', 'first', 'step 2 0 1/4', 'step 0 1 1/4', 'step 0 0 1/2']
>>> slide = Book('\n'.join(rows + ['second', 'step 1 0 1/4', 'step 0 -1 1/2', 'step 0 0 1/4', 'none', 'step 1 1 1']))
>>> [drift(slide, 'inside'), turns(slide), asked(slide), does_come_home(slide)]
[((-1, 10), (-1, 10)), ((1, 40), (-3, 40)), ('first', 'second'), False]
>>> even = Book('book\ninside\nstep 1 0 1/2\nstep -1 0 1/2\nfirst\nstep 0 1 1\nsecond\nstep 1 0 1\nnone\nstep 0 0 1')
>>> [border(even), turns(even)]
['x', ((0, 1), (0, 1))]
"""

SECTION_6 = r"""
>>> from cornerdrifts.books import Book, exchanged
>>> from cornerdrifts.home import home, mean_change, shows_home, worth
>>> rows = ['book', 'inside', 'step 1 0 1/6', 'step 0 1 1/6', 'step -1 0 1/3', 'step 0 -1 1/3', 'first', 'step 1 0 1/6', 'step 0 1 1/6', 'step -1 0 2/3']
>>> ends = ['second', 'step 1 0 1/6', 'step 0 1 1/6', 'step 0 -1 2/3', 'none', 'step 1 0 1/6', 'step 0 1 1/6', 'step 0 0 2/3']
>>> pair, zero, half = Book('\n'.join(rows + ends)), (0, 1), (1, 2)
>>> [home(pair)[0], [shows_home(pair, ('home', ((3, 1), (3, 1), zero, zero, half, zero, half, n))) for n in (2, 3)]]
['home', [False, True]]
>>> paper = ((3, 1), (3, 1), zero, zero, half, zero, half, 3)
>>> [worth(pair, paper, (2, 2)), mean_change(pair, paper, (2, 2)), mean_change(pair, paper, (3, 0))]
[(24, 1), (-1, 1), (-6, 1)]
>>> climb = Book('\n'.join(rows + ends).replace('step 0 1 1/6\nstep 0 -1 2/3', 'step 0 1 2/3\nstep 0 -1 1/6'))
>>> [home(climb)[0], [shows_home(climb, ('away', ('along', 'second', (b, 1), zero, half))) for b in (0, 1, 3, 4)]]
['away', [False, True, True, False]]
>>> grow = Book('book\ninside\nstep 1 0 1/3\nstep 0 1 1/3\nstep -1 0 1/6\nstep 0 -1 1/6\n' + '\n'.join(rows[6:] + ends))
>>> [home(grow)[0], [shows_home(grow, ('away', ('inner', r, half))) for r in ((1, 3), half, (2, 3))]]
['away', [False, True, True]]
>>> top = ['book', 'inside', 'step -1 1 1/2', 'step 0 0 1/2', 'first', 'step 1 1 1/2', 'step 0 0 1/2']
>>> lift = Book('\n'.join(top + ['second', 'step 1 0 1/8', 'step 0 -1 7/8', 'none', 'step 0 0 1']))
>>> [home(lift)[0], [shows_home(lift, ('home', ((4, 1), (1, 1), (2, 1), (c, 1), half, zero, half, n))) for c, n in ((32, 6), (32, 5), (0, 6))]]
['home', [True, False, False]]
>>> shows_home(exchanged(lift), ('home', ((1, 1), (4, 1), (2, 1), zero, half, (32, 1), half, 6)))
True
"""

SECTION_7 = r"""
>>> from cornerdrifts.books import Book
>>> from cornerdrifts.sides import goes, mean_beside, pace, share_beside, shares
>>> inside = ['book', 'inside', 'step 1 0 1/8', 'step 0 1 1/8', 'step -1 0 3/8', 'step 0 -1 3/8']
>>> first = ['first', 'step 1 0 1/8', 'step 0 1 1/8', 'step -1 0 3/4']
>>> second, none = ['second', 'step 1 0 1/8', 'step 0 1 1/8', 'step 0 -1 3/4'], ['none', 'step 1 0 1/2', 'step 0 1 1/2']
>>> calm = Book('\n'.join(inside + first + second + none))
>>> [share_beside(calm, 'second'), pace(calm, 'second'), mean_beside(calm, 'second'), goes(calm)]
[(2, 3), (-1, 2), (1, 2), ('home',)]
>>> shares(calm, 'second', 4)
((2, 3), (2, 9), (2, 27), (2, 81))
>>> drawn = Book('\n'.join(inside + first + ['second', 'step 1 0 1/8', 'step 0 1 7/8'] + none))
>>> [share_beside(drawn, 'second'), pace(drawn, 'second'), pace(drawn, 'first'), goes(drawn)]
[(2, 3), (1, 2), (-1, 2), ('second', (1, 2))]
>>> leaps = Book('\n'.join(inside + first + ['second', 'step 2 0 1/8', 'step 0 0 7/8'] + none))
>>> [share_beside(leaps, 'second'), shares(leaps, 'second', 4), mean_beside(leaps, 'second')]
[(1, 2), ((1, 2), (1, 6), (2, 9), (2, 27)), (1, 1)]
"""

SECTION_8 = r"""
>>> from cornerdrifts.books import Book
>>> from cornerdrifts.ways import at_time, legs, time_home
>>> rows = ['book', 'inside', 'step 1 0 3/8', 'step -1 0 1/4', 'step 0 -1 3/8', 'first', 'step 1 0 1/4', 'step -1 0 1/2', 'step 0 1 1/4']
>>> helped = Book('\n'.join(rows + ['second', 'step 1 0 1/2', 'step 0 -1 1/2', 'none', 'step 1 0 1/2', 'step 0 1 1/2']))
>>> legs(helped, ((0, 1), (3, 1)))
(((0, 1), (3, 1), (1, 8), (-3, 8), (8, 1)), ((1, 1), (0, 1), (-1, 10), (0, 1), (10, 1)))
>>> [time_home(helped, place) for place in (((0, 1), (3, 1)), ((2, 1), (3, 1)), ((4, 1), (6, 1)), ((1, 3), (0, 1)))]
[(18, 1), (38, 1), (76, 1), (10, 3)]
>>> [at_time(helped, ((2, 1), (3, 1)), time) for time in ((0, 1), (4, 1), (8, 1), (13, 1), (38, 1), (99, 1))]
[((2, 1), (3, 1)), ((5, 2), (3, 2)), ((3, 1), (0, 1)), ((5, 2), (0, 1)), ((0, 1), (0, 1)), ((0, 1), (0, 1))]
>>> alone = Book(helped.text.replace('step 1 0 1/4\nstep -1 0 1/2\nstep 0 1 1/4', 'step 1 0 1/2\nstep -1 0 1/4\nstep 0 1 1/4'))
>>> [legs(alone, ((2, 1), (3, 1)))[1], legs(alone, ((7, 1), (0, 1)))]
[((3, 1), (0, 1), (1, 5), (0, 1), None), (((7, 1), (0, 1), (1, 5), (0, 1), None),)]
"""

SECTION_9 = r"""
>>> from cornerdrifts.books import Book
>>> from cornerdrifts.ticks import after, between, home_by, lasting, means_after
>>> book = Book('book\ninside\nstep -1 0 1/2\nstep 0 -1 1/2\nfirst\nstep -1 0 1/2\nstep -1 1 1/2\nsecond\nstep 0 -1 1/2\nstep 1 -1 1/2\nnone\nstep 1 0 1/2\nstep 0 1 1/2')
>>> [after(book, (1, 1), 0), after(book, (1, 1), 1)]
[(((1, 1), (1, 1)),), (((0, 1), (1, 2)), ((1, 0), (1, 2)))]
>>> after(book, (1, 1), 2)
(((0, 0), (1, 2)), ((0, 1), (1, 4)), ((1, 0), (1, 4)))
>>> [means_after(book, (2, 1), ticks) for ticks in (0, 1, 2)]
[((2, 1), (1, 1)), ((3, 2), (1, 2)), ((3, 4), (1, 2))]
>>> [home_by(book, (1, 1), 0, ticks) for ticks in (1, 2, 3, 4)]
[(0, 1), (1, 2), (3, 4), (7, 8)]
>>> [lasting(book, (1, 1), 0, ticks) for ticks in (0, 1, 3, 5)]
[(0, 1), (1, 1), (5, 2), (23, 8)]
>>> paper = ((1, 1), (1, 1), (0, 1), (0, 1), (1, 2), (0, 1), (1, 2), 1)
>>> [between(book, (2, 1), paper, 1), between(book, (2, 1), paper, 5), between(book, (1, 0), paper, 5)]
[((1, 1), (5, 1)), ((9, 4), (5, 1)), ((0, 1), (0, 1))]
"""

SECTION_10 = r"""
>>> from cornerdrifts.books import Book
>>> from cornerdrifts.changes import home_amounts, moved
>>> rows = ['inside', 'step 1 0 1/8', 'step 0 1 1/8', 'step -1 0 3/8', 'step 0 -1 3/8']
>>> rows = ['book'] + rows + ['first', 'step 1 0 1/8', 'step 0 1 1/8', 'step -1 0 3/4']
>>> rows = rows + ['second', 'step 1 0 1/8', 'step 0 1 1/8', 'step 0 -1 3/4', 'none', 'step 1 0 1/8', 'step 0 1 1/8', 'step 0 0 3/4']
>>> pair = Book('\n'.join(rows))
>>> moved(pair, 'none', (0, 0), (1, 0), (1, 4)).text.split('\n')[14:]
['none', 'step 1 0 3/8', 'step 0 1 1/8', 'step 0 0 1/2']
>>> moved(pair, 'inside', (0, -1), (-1, -1), (3, 8)).inside
((1, 0, (1, 8)), (0, 1, (1, 8)), (-1, 0, (3, 8)), (-1, -1, (3, 8)))
>>> home_amounts(pair, 'inside', (-1, 0), (1, 0))
(((0, 1), (1, 8), True, False), ((1, 8), (3, 8), False, True))
>>> home_amounts(pair, 'second', (0, -1), (0, 1))
(((0, 1), (3, 8), True, False),)
>>> [home_amounts(pair, 'first', (-1, 0), (0, 1)), moved(pair, 'first', (-1, 0), (0, 1), (0, 1)) == pair]
[(((0, 1), (3, 4), True, True),), True]
"""

SECTION_11 = r"""
>>> from cornerdrifts.drifts import does_come_home, turns
>>> from cornerdrifts.makes import handed_on, load_of_hand, loads, one_hand, two_hands
>>> a, b, m, e, g = (1, 6), (1, 6), (2, 3), (1, 1), (1, 2)
>>> one_hand(a, b, m, e, g, (3, 4)).inside
((1, 0, (1, 6)), (0, 1, (1, 6)), (-1, 0, (1, 2)), (0, -1, (1, 12)), (0, 0, (1, 12)))
>>> [one_hand(a, b, m, e, g, (3, 4)).first, one_hand(a, b, m, e, g, (3, 4)).none]
[((1, 0, (1, 6)), (0, 1, (1, 6)), (-1, 0, (2, 3))), ((1, 0, (1, 6)), (0, 1, (1, 6)), (0, 0, (2, 3)))]
>>> [load_of_hand(a, b, m, e, g), [does_come_home(one_hand(a, b, m, e, g, share)) for share in ((0, 1), (3, 4), (1, 1))]]
[(3, 4), [True, True, True]]
>>> two_hands((1, 5), (1, 10), (3, 10), (2, 5), (1, 2)).first
((1, 0, (1, 5)), (0, 1, (1, 10)), (-1, 0, (1, 2)), (0, 0, (1, 5)))
>>> told = ((1, 10), (1, 10), (2, 5), (2, 5), (1, 2), (1, 4))
>>> handed_on(*told).second
((1, 0, (1, 10)), (0, 1, (1, 10)), (1, -1, (1, 10)), (0, -1, (3, 10)), (0, 0, (2, 5)))
>>> [loads(*told), turns(handed_on(*told)), does_come_home(handed_on(*told))]
[((5, 14), (3, 7)), ((-9, 100), (-2, 25)), True]
"""

SECTION_12 = r"""
>>> from cornerdrifts.makes import handed_on
>>> from cornerdrifts.products import balance, is_steady, product_of_loads, whole
>>> chances = ((1, 8), (1, 8), (3, 8), (3, 8), (0, 1), (0, 1))
>>> table = product_of_loads(*chances)
>>> table
(((4, 9), (1, 3), (1, 3)), ((4, 9), (1, 3)), ((4, 9), (1, 3)), (4, 9))
>>> book = handed_on(*chances)
>>> [whole(table), is_steady(book, table), balance(book, table, (0, 0)), balance(book, table, (40, 7))]
[(1, 1), ('steady',), (0, 1), (0, 1)]
>>> less = (table[0], table[1], table[2], (1, 9))
>>> [whole(less), is_steady(book, less), balance(book, less, (0, 0)), balance(book, less, (1, 1)), balance(book, less, (0, 1))]
[(2, 3), ('off', (0, 0)), (1, 12), (0, 1), (-1, 24)]
>>> product_of_loads((1, 8), (1, 8), (3, 8), (3, 8), (1, 1), (0, 1))[0]
((2, 9), (1, 3), (2, 3))
"""

SECTION_13 = r"""
>>> from cornerdrifts.bench import Bench
>>> bench = Bench('book\ninside\nstep -1 0 1/2\nstep 0 -1 1/2\nfirst\nstep -1 0 1/2\nstep -1 1 1/2\nsecond\nstep 0 -1 1/2\nstep 1 -1 1/2\nnone\nstep 1 0 1/2\nstep 0 1 1/2')
>>> [bench.told, bench.done, len(bench.book)]
['home', 0, 8]
>>> bench.put('first', (-1, 0), (1, 0), (1, 2))
>>> [bench.told, bench.book.first]
['home', ((-1, 1, (1, 2)), (1, 0, (1, 2)))]
>>> bench.put('first', (-1, 1), (1, 0), (1, 6))
>>> [bench.told, bench.book.first]
['border', ((-1, 1, (1, 3)), (1, 0, (2, 3)))]
>>> bench.put('first', (-1, 1), (1, 0), (1, 12))
>>> [bench.told, bench.book.first]
['away', ((-1, 1, (1, 4)), (1, 0, (3, 4)))]
>>> bench.turn()
>>> [bench.told, bench.book.second, bench.book.none]
['away', ((1, -1, (1, 4)), (0, 1, (3, 4))), ((0, 1, (1, 2)), (1, 0, (1, 2)))]
>>> bench.slow((1, 2))
>>> [bench.told, bench.book.inside, bench.done]
['away', ((0, -1, (1, 4)), (-1, 0, (1, 4)), (0, 0, (1, 2))), 5]
>>> bench.undo()
>>> bench.undo()
>>> bench.undo()
>>> [bench.told, bench.done, bench.book.first]
['border', 2, ((-1, 1, (1, 3)), (1, 0, (2, 3)))]
"""

SECTION_14 = r"""
>>> from cornerdrifts.desk import Desk
>>> from cornerdrifts.journals import journal, read_journal
>>> rows = ['inside', 'step 1 0 1/5', 'step -1 1 1/2', 'step 0 -1 3/10', 'first', 'step 1 0 1/5', 'step -1 1 1/2', 'step 0 0 3/10']
>>> lines = ['bench', 'book'] + rows + ['second', 'step 1 0 1/5', 'step 0 -1 3/10', 'step 0 0 1/2', 'none', 'step 1 0 1/5', 'step 0 0 4/5']
>>> desk = Desk('\n'.join(lines))
>>> [desk.say(line) for line in ('told', 'border', 'drift inside', 'turns', 'goes')]
['home', 'plain', '-3/10 1/5', '-9/100 -1/20', 'home']
>>> [desk.say(line) for line in ('put second 0 -1 0 0 1/4', 'drift second', 'turns', 'told', 'goes')]
['ok', '1/5 -1/20', '-9/100 1/40', 'away', 'second 1/20']
>>> [desk.say(line) for line in ('turn', 'slow 1/2', 'drift inside', 'told', 'undo', 'drift inside')]
['ok', 'ok', '1/10 -3/20', 'away', 'ok', '1/5 -3/10']
>>> journal(desk.bench).split('\n')[len(lines):]
['put second 0 -1 0 0 1/4', 'turn']
>>> read_journal(journal(desk.bench)) == desk.bench
True
>>> desk.say('book')[:40]
'book;inside;step 0 1 1/5;step 1 -1 1/2;s'
"""

SECTION_15 = r"""
>>> from cornerdrifts.errors import BadPair, DriftError
>>> [isinstance(BadPair(0), DriftError), BadPair((-1, 2)).value]
[True, (-1, 2)]
"""


class Examples(unittest.TestCase):
    def check(self, text, many):
        examples = doctest.DocTestParser().get_doctest(text, {}, "examples", None, None)
        self.assertEqual(len(examples.examples), many)
        shown = []
        results = doctest.DocTestRunner().run(examples, out=shown.append)
        self.assertEqual((results.failed, results.attempted), (0, many), "".join(shown))

    def test_section_4(self):
        self.check(SECTION_4, 10)

    def test_section_5(self):
        self.check(SECTION_5, 12)

    def test_section_6(self):
        self.check(SECTION_6, 16)

    def test_section_7(self):
        self.check(SECTION_7, 12)

    def test_section_8(self):
        self.check(SECTION_8, 9)

    def test_section_9(self):
        self.check(SECTION_9, 10)

    def test_section_10(self):
        self.check(SECTION_10, 11)

    def test_section_11(self):
        self.check(SECTION_11, 10)

    def test_section_12(self):
        self.check(SECTION_12, 10)

    def test_section_13(self):
        self.check(SECTION_13, 17)

    def test_section_14(self):
        self.check(SECTION_14, 11)

    def test_section_15(self):
        self.check(SECTION_15, 2)
