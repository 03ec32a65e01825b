"""Point [9]: rings, depths and pieces."""

import math
import unittest

from everynext.rings import (
    children, depth, depths, entry, first_repeat, height, on_rings, period, pieces, ring_of, rings, tree_over,
)
from tests.helpers import (
    BUSHES, CHARTS, EACH_ITS_OWN, EAR, LONG_WAY, LONG_WAY_TO_TWO, NINETY_DIGITS, ONE, ONE_RING, PERIOD_THIRTY, STAR,
    is_plainly_on_ring, plain_depth, plain_ring_of, plain_step, walked,
)


def pairs():
    return [(chart, place) for chart in CHARTS for place in range(len(chart))]


def comes_without_a_ring(chart, place, other_place):
    """Whether some steps, none of them from a place on a ring, lead the one to the other."""
    for number in range(len(chart)):
        if walked(chart, place, number) == other_place:
            return True
        if is_plainly_on_ring(chart, walked(chart, place, number)):
            return False
    return False


class RingsTest(unittest.TestCase):
    def test_ring_of(self):
        for chart, place in pairs():
            self.assertEqual(ring_of(chart, place), plain_ring_of(chart, place), (chart, place))

    def test_rings(self):
        for chart in CHARTS:
            wanted = sorted({plain_ring_of(chart, place) for place in range(len(chart))})
            self.assertEqual(rings(chart), wanted, chart)

    def test_rings_edges(self):
        self.assertEqual([rings(ONE), rings(STAR), rings(LONG_WAY)], [[(0,)], [(7,)], [(0,)]])
        self.assertEqual(rings(EACH_ITS_OWN), [(0,), (1,), (2,), (3,), (4,), (5,), (6,), (7,), (8,), (9,)])
        self.assertEqual([rings(ONE_RING), rings(LONG_WAY_TO_TWO)], [[EACH_ITS_OWN], [(8, 9)]])
        self.assertEqual(rings(PERIOD_THIRTY), [(0, 1), (2, 3, 4), (5, 6, 7, 8, 9)])
        self.assertEqual(rings((2, 0, 1)), [(0, 2, 1)])
        self.assertEqual(rings((3, 2, 1, 0)), [(0, 3), (1, 2)])

    def test_ring_of_edges(self):
        self.assertEqual([ring_of(ONE, 0), ring_of(STAR, 7), ring_of(STAR, 0)], [(0,), (7,), (7,)])
        self.assertEqual([ring_of(ONE_RING, 6), ring_of(LONG_WAY, 9)], [EACH_ITS_OWN, (0,)])
        self.assertEqual([ring_of(BUSHES, 6), ring_of(BUSHES, 9), ring_of((2, 0, 1), 2)], [(3, 4, 5), (7,), (0, 2, 1)])

    def test_on_rings(self):
        for chart in CHARTS:
            wanted = [place for place in range(len(chart)) if is_plainly_on_ring(chart, place)]
            self.assertEqual(on_rings(chart), tuple(wanted), chart)

    def test_on_rings_edges(self):
        self.assertEqual([on_rings(ONE), on_rings(STAR), on_rings(LONG_WAY_TO_TWO)], [(0,), (7,), (8, 9)])
        self.assertEqual([on_rings(ONE_RING), on_rings(BUSHES)], [EACH_ITS_OWN, (3, 4, 5, 7)])


class DepthsTest(unittest.TestCase):
    def test_depth(self):
        for chart, place in pairs():
            self.assertEqual(depth(chart, place), plain_depth(chart, place), (chart, place))

    def test_depths_and_height(self):
        for chart in CHARTS:
            wanted = tuple(plain_depth(chart, place) for place in range(len(chart)))
            self.assertEqual(depths(chart), wanted, chart)
            self.assertEqual(height(chart), max(wanted), chart)

    def test_depths_edges(self):
        self.assertEqual([depths(ONE), depths(ONE_RING), depths(LONG_WAY)], [(0,), (0,) * 10, EACH_ITS_OWN])
        self.assertEqual(depths(LONG_WAY_TO_TWO), (8, 7, 6, 5, 4, 3, 2, 1, 0, 0))
        self.assertEqual([height(ONE), height(EACH_ITS_OWN), height(LONG_WAY), height(STAR)], [0, 0, 9, 1])
        self.assertEqual([depth(BUSHES, 6), depth(BUSHES, 9), depth(BUSHES, 7)], [1, 2, 0])

    def test_entry(self):
        for chart, place in pairs():
            wanted = walked(chart, place, plain_depth(chart, place))
            self.assertEqual(entry(chart, place), wanted, (chart, place))

    def test_entry_edges(self):
        self.assertEqual([entry(ONE, 0), entry(ONE_RING, 4), entry(LONG_WAY, 9)], [0, 4, 0])
        self.assertEqual(entry(LONG_WAY_TO_TWO, 0), 8)
        self.assertEqual([entry(BUSHES, 6), entry(BUSHES, 0), entry(STAR, 9)], [5, 3, 7])

    def test_period(self):
        for chart in CHARTS:
            lengths = [len(plain_ring_of(chart, place)) for place in range(len(chart))]
            self.assertEqual(period(chart), math.lcm(*lengths), chart)

    def test_period_edges(self):
        self.assertEqual([period(ONE), period(EACH_ITS_OWN), period(LONG_WAY), period(EAR)], [1, 1, 1, 2])
        self.assertEqual([period(ONE_RING), period(PERIOD_THIRTY), period((1, 0, 3, 2))], [10, 30, 2])
        self.assertEqual(period((1, 0, 3, 4, 5, 2)), 4)


class PiecesTest(unittest.TestCase):
    def test_pieces(self):
        for chart in CHARTS:
            places = range(len(chart))
            wanted = {tuple(x for x in places if plain_ring_of(chart, x) == plain_ring_of(chart, y)) for y in places}
            self.assertEqual(pieces(chart), sorted(wanted), chart)

    def test_pieces_edges(self):
        self.assertEqual([pieces(ONE), pieces(STAR), pieces(ONE_RING)], [[(0,)], [EACH_ITS_OWN], [EACH_ITS_OWN]])
        self.assertEqual(pieces(EACH_ITS_OWN), [(place,) for place in range(10)])
        self.assertEqual(pieces(PERIOD_THIRTY), [(0, 1), (2, 3, 4), (5, 6, 7, 8, 9)])
        self.assertEqual(pieces(BUSHES), [(0, 1, 2, 3, 4, 5, 6), (7, 8, 9)])
        # The pieces stand by their own places, not by those of their rings.
        self.assertEqual(pieces((3, 1, 2, 3)), [(0, 3), (1,), (2,)])

    def test_children(self):
        for chart, place in pairs():
            wanted = [x for x in range(len(chart)) if chart[x] == place and not is_plainly_on_ring(chart, x)]
            self.assertEqual(children(chart, place), tuple(wanted), (chart, place))

    def test_children_edges(self):
        self.assertEqual([children(ONE, 0), children(ONE_RING, 5), children(LONG_WAY, 0)], [(), (), (1,)])
        self.assertEqual([children(STAR, 7), children(STAR, 0)], [(0, 1, 2, 3, 4, 5, 6, 8, 9), ()])
        self.assertEqual([children(BUSHES, 3), children(BUSHES, 8)], [(0, 1, 2), (9,)])

    def test_tree_over(self):
        for chart, place in pairs():
            wanted = [x for x in range(len(chart)) if comes_without_a_ring(chart, x, place)]
            self.assertEqual(tree_over(chart, place), tuple(wanted), (chart, place))

    def test_tree_over_edges(self):
        self.assertEqual([tree_over(ONE, 0), tree_over(ONE_RING, 5), tree_over(STAR, 7)], [(0,), (5,), EACH_ITS_OWN])
        self.assertEqual([tree_over(LONG_WAY, 0), tree_over(LONG_WAY, 7)], [EACH_ITS_OWN, (7, 8, 9)])
        self.assertEqual([tree_over(LONG_WAY_TO_TWO, 9), tree_over(LONG_WAY_TO_TWO, 8)], [(9,), tuple(range(9))])
        self.assertEqual([tree_over(BUSHES, 3), tree_over(BUSHES, 5)], [(0, 1, 2, 3), (5, 6)])
        self.assertEqual(tree_over(BUSHES, 0), (0,))


class FirstRepeatTest(unittest.TestCase):
    def test_few_steps(self):
        for chart in CHARTS:
            for number in range(13):
                steps = [k for k in range(number + 1, number + 31) if plain_step(chart, k) == plain_step(chart, number)]
                self.assertEqual(first_repeat(chart, number), steps[0] if steps else None, (chart, number))

    def test_around_the_height(self):
        self.assertEqual([first_repeat(LONG_WAY, number) for number in (0, 8, 9, 10)], [None, None, 10, 11])
        self.assertEqual([first_repeat(LONG_WAY_TO_TWO, number) for number in (7, 8, 9)], [None, 10, 11])
        self.assertEqual([first_repeat(ONE, 0), first_repeat(EACH_ITS_OWN, 0), first_repeat(ONE_RING, 0)], [1, 1, 10])
        self.assertEqual([first_repeat(PERIOD_THIRTY, 0), first_repeat(PERIOD_THIRTY, 29)], [30, 59])

    def test_ninety_digits(self):
        self.assertEqual(first_repeat(ONE, NINETY_DIGITS), NINETY_DIGITS + 1)
        self.assertEqual(first_repeat(LONG_WAY, 10 ** 90 - 1), 10 ** 90)
        self.assertEqual(first_repeat(PERIOD_THIRTY, NINETY_DIGITS), NINETY_DIGITS + 30)


if __name__ == "__main__":
    unittest.main()
