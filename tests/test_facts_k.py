"""The facts K1 to K6, over all charts of up to four places and some of up to ten."""

import itertools
import unittest

from everynext.joining import (
    beside, both_come, comers, exchanged, first_common, hung, less_place, stepped_in, steps_to, together_counts,
    together_parts, together_steps, turned,
)
from everynext.likenesses import are_kept, chart_of, kept_parts
from everynext.rings import depth, entry, height, on_rings, period, pieces, ring_of, rings
from tests.helpers import CHARTS_OF_FOUR, FACT_CHARTS, SMALL_CHARTS, is_finer, one_of_each_kind

KINDS = [chart for count in range(1, 5) for chart in one_of_each_kind(count)]


def pairs(chart):
    return itertools.product(range(len(chart)), repeat=2)


def are_in_one_piece(chart, place, other):
    return ring_of(chart, place) == ring_of(chart, other)


def gone_back(chart, place):
    """The ring place to which one comes who goes to the ring, and as many steps back round it."""
    ring = ring_of(chart, place)
    return ring[(ring.index(entry(chart, place)) - depth(chart, place)) % len(ring)]


class FactsTest(unittest.TestCase):
    def test_k1_when_places_come_together(self):
        for chart in FACT_CHARTS:
            for place, other in pairs(chart):
                wanted = gone_back(chart, place) == gone_back(chart, other)
                self.assertEqual(together_steps(chart, place, other) is not None, wanted, (chart, place, other))

    def test_k1_parts(self):
        for chart in FACT_CHARTS:
            parts = together_parts(chart)
            ringed = on_rings(chart)
            self.assertEqual([len(set(part) & set(ringed)) for part in parts], [1] * len(parts), chart)
            self.assertTrue(are_kept(chart, parts), chart)
            self.assertEqual(on_rings(chart_of(chart, parts)), tuple(range(len(parts))), chart)
            for place, other in pairs(chart):
                together = any(place in part and other in part for part in parts)
                self.assertEqual(together, together_steps(chart, place, other) is not None, (chart, place, other))

    def test_k1_the_finest_ones(self):
        for chart in FACT_CHARTS:
            if len(chart) <= 6:
                for parts in kept_parts(chart):
                    if len(on_rings(chart_of(chart, parts))) == len(parts):
                        self.assertTrue(is_finer(together_parts(chart), parts), (chart, parts))

    def test_k2(self):
        for chart in FACT_CHARTS:
            counts = together_counts(chart)
            self.assertEqual(len(counts), height(chart) + 1, chart)
            self.assertTrue(all(less < more for less, more in zip(counts, counts[1:])), chart)
            wanted = sum(len(part) * (len(part) - 1) // 2 for part in together_parts(chart))
            self.assertEqual(counts[-1], wanted, chart)

    def test_k3(self):
        for chart in FACT_CHARTS:
            for place, other in pairs(chart):
                found = first_common(chart, place, other)
                in_one = are_in_one_piece(chart, place, other)
                self.assertEqual(found is not None, in_one, (chart, place, other))
                steps = together_steps(chart, place, other)
                if steps is not None:
                    self.assertGreaterEqual(2 * steps, found[0] + found[1], (chart, place, other))
                led = steps_to(chart, place, other)
                self.assertEqual(led == 0, place == other, (chart, place, other))
                self.assertTrue(led is None or led <= len(chart) - 1, (chart, place, other))
                self.assertEqual(led is not None, place in comers(chart, other), (chart, place, other))
                common = both_come(chart, place, other)
                self.assertEqual(bool(set(common) & set(on_rings(chart))), in_one, (chart, place, other))

    def test_k4(self):
        for chart in FACT_CHARTS:
            for place, other in pairs(chart):
                if place == other:
                    continue
                told = exchanged(chart, place, other)
                change = len(rings(told)) - len(rings(chart))
                self.assertLessEqual(abs(change), 1, (chart, place, other))
                if place in on_rings(chart) and other in on_rings(chart):
                    ring, other_ring = ring_of(chart, place), ring_of(chart, other)
                    self.assertEqual(change, 1 if ring == other_ring else -1, (chart, place, other))
                    found = {ring_of(told, place), ring_of(told, other)}
                    self.assertEqual(len(found), 2 if ring == other_ring else 1, (chart, place, other))
                    self.assertEqual(set().union(*found), {*ring, *other_ring}, (chart, place, other))

    def test_k5_hung(self):
        for chart, other in itertools.product(SMALL_CHARTS + CHARTS_OF_FOUR[::5], KINDS):
            both = beside(chart, other)
            self.assertEqual(len(pieces(both)), len(pieces(chart)) + len(pieces(other)))
            for place, other_place in itertools.product(range(len(chart)), range(len(other))):
                fewer = 1 if other_place in on_rings(other) else 0
                told = hung(chart, place, other, other_place)
                self.assertEqual(len(pieces(told)), len(pieces(both)) - fewer, (chart, place, other, other_place))

    def test_k5_stepped_in_and_less_place(self):
        for chart in FACT_CHARTS:
            for place in range(len(chart)):
                if len(chart) < 10:
                    told = stepped_in(chart, place)
                    self.assertEqual(len(pieces(told)), len(pieces(chart)), (chart, place))
                    self.assertEqual(less_place(told, len(chart)), chart, (chart, place))
                if len(chart) > 1:
                    fewer = 1 if (place,) in pieces(chart) else 0
                    self.assertEqual(len(pieces(less_place(chart, place))), len(pieces(chart)) - fewer, (chart, place))

    def test_k6(self):
        for chart in FACT_CHARTS:
            told = turned(chart)
            self.assertEqual(turned(told), chart, chart)
            self.assertEqual((height(told), period(told)), (height(chart), period(chart)), chart)


if __name__ == "__main__":
    unittest.main()
