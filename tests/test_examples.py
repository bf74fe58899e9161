"""The examples of the document, as they stand there."""

import doctest
import unittest

SECTION_4 = r"""
>>> from cornerdrifts.books import Book, chance_of, exchanged, mixed, region_at, slowed, steps_of
>>> rows = ['book', 'inside', 'step 1 0 1/4', 'step -1 1 1/2', 'step 0 -1 1/4', 'first', 'step 1 0 1/2', 'step -1 1 1/2']
>>> queue = Book('\n'.join(rows + ['second', 'step 1 0 1/3', 'step 0 -1 2/3', 'none', 'step 1 0 1/2', 'step 0 0 1/2']))
>>> [queue.inside, queue.second, len(queue)]
[((1, 0, (1, 4)), (-1, 1, (1, 2)), (0, -1, (1, 4))), ((1, 0, (1, 3)), (0, -1, (2, 3))), 9]
>>> [[region_at(pair) for pair in ((4, 1), (4, 0), (0, 1), (0, 0))], steps_of(queue, 'none')]
[['inside', 'first', 'second', 'none'], ((1, 0, (1, 2)), (0, 0, (1, 2)))]
>>> [chance_of(queue, 'inside', -1, 1), chance_of(queue, 'first', 0, 0)]
[(1, 2), (0, 1)]
>>> [exchanged(queue).first, exchanged(queue).none, exchanged(exchanged(queue)) == queue]
[((0, 1, (1, 3)), (-1, 0, (2, 3))), ((0, 1, (1, 2)), (0, 0, (1, 2))), True]
>>> [slowed(queue, (1, 2)).second, slowed(queue, (1, 2)).none, slowed(queue, (1, 1)) == queue]
[((1, 0, (1, 6)), (0, -1, (1, 3)), (0, 0, (1, 2))), ((1, 0, (1, 4)), (0, 0, (3, 4))), True]
>>> mixed(queue, exchanged(queue), (1, 3)).first
((1, 0, (1, 6)), (-1, 1, (1, 6)), (0, 1, (2, 9)), (-1, 0, (4, 9)))
>>> [mixed(queue, exchanged(queue), (1, 1)) == queue, mixed(queue, queue, (1, 5)) == queue]
[True, True]
"""

SECTION_5 = r"""
>>> from cornerdrifts.books import Book, exchanged
>>> from cornerdrifts.drifts import asked, border, does_come_home, drift, turns
>>> rows = ['book', 'inside', 'step 1 0 1/5', 'step -1 1 1/2', 'step 0 -1 3/10', 'first', 'step 1 0 1/5', 'step -1 1 1/2', 'step 0 0 3/10']
>>> line = Book('\n'.join(rows + ['second', 'step 1 0 1/5', 'step 0 -1 3/10', 'step 0 0 1/2', 'none', 'step 1 0 1/5', 'step 0 0 4/5']))
>>> [drift(line, region) for region in ('inside', 'first', 'second', 'none')]
[((-3, 10), (1, 5)), ((-3, 10), (1, 2)), ((1, 5), (-3, 10)), ((1, 5), (0, 1))]
>>> [turns(line), border(line), asked(line), does_come_home(line)]
[((-9, 100), (-1, 20)), None, ('second',), True]
>>> [turns(exchanged(line)), asked(exchanged(line)), does_come_home(exchanged(line))]
[((-1, 20), (-9, 100)), ('first',), True]
>>> rows = ['book', 'inside', 'step -1 0 3/10', 'step 1 0 1/5', 'step 0 -1 3/10', 'step 0 1 1/5', 'first', 'step 2 0 1/4', 'step 0 1 1/4', 'step 0 0 1/2']
>>> slide = Book('\n'.join(rows + ['second', 'step 1 0 1/4', 'step 0 -1 1/2', 'step 0 0 1/4', 'none', 'step 1 1 1']))
>>> [drift(slide, 'inside'), turns(slide), asked(slide), does_come_home(slide)]
[((-1, 10), (-1, 10)), ((1, 40), (-3, 40)), ('first', 'second'), False]
>>> even = Book('book\ninside\nstep 1 0 1/2\nstep -1 0 1/2\nfirst\nstep 0 1 1\nsecond\nstep 1 0 1\nnone\nstep 0 0 1')
>>> [border(even), turns(even)]
['x', ((0, 1), (0, 1))]
"""

SECTION_15 = r"""
>>> from cornerdrifts.errors import BadPair, DriftError
>>> [isinstance(BadPair(0), DriftError), BadPair((-1, 2)).value]
[True, (-1, 2)]
"""


class Examples(unittest.TestCase):
    def check(self, text, many):
        examples = doctest.DocTestParser().get_doctest(text, {}, "examples", None, None)
        self.assertEqual(len(examples.examples), many)
        shown = []
        results = doctest.DocTestRunner().run(examples, out=shown.append)
        self.assertEqual((results.failed, results.attempted), (0, many), "".join(shown))

    def test_section_4(self):
        self.check(SECTION_4, 10)

    def test_section_5(self):
        self.check(SECTION_5, 12)

    def test_section_15(self):
        self.check(SECTION_15, 2)
