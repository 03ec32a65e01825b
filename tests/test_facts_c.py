"""The facts C1 to C5, over all charts of up to four places and some of up to ten."""

import math
import unittest

from everynext.along import goes_along
from everynext.charts import step
from everynext.errors import TooMany
from everynext.rings import height, on_rings, period, rings
from everynext.roots import (
    barred_lengths, first_root, fitting, is_root, nth_root, ring_root_count, root_count, rooted, step_root,
)
from tests.helpers import CHARTS_OF_FOUR, FACT_CHARTS, SMALL_CHARTS, mixed_chart

POWERS = (1, 2, 3, 4, 5, 7, 12, 1000)
UP_TO_FOUR = SMALL_CHARTS + CHARTS_OF_FOUR
SEVENS = [mixed_chart(7, seed) for seed in range(1, 9)] + [(0, 1, 2, 3, 4, 5, 6), (1, 0, 3, 2, 5, 4, 6), (6,) * 7]


def some_roots(chart, power):
    """The first roots of a chart that has not too many places for them."""
    return [nth_root(chart, power, number) for number in range(min(root_count(chart, power), 12))]


def ways_to_share(rings_left, length, power):
    """All ways to share out these rings in heaps of fitting numbers, each heap with its rings told."""
    if not rings_left:
        return [[]]
    told = []
    for chosen in range(2 ** (len(rings_left) - 1)):
        heap = [rings_left[0]] + [ring for k, ring in enumerate(rings_left[1:]) if chosen >> k & 1]
        if len(heap) in fitting(length, power):
            others = [ring for ring in rings_left if ring not in heap]
            told += [[heap] + rest for rest in ways_to_share(others, length, power)]
    return told


class FactsTest(unittest.TestCase):
    def test_c1_ring_places_and_height(self):
        for root in FACT_CHARTS:
            for power in POWERS:
                chart = step(root, power)
                self.assertTrue(is_root(chart, power, root))
                self.assertEqual(on_rings(chart), on_rings(root), (root, power))
                self.assertEqual(height(chart), -(-height(root) // power), (root, power))

    def test_c1_no_root_of_high_charts(self):
        for chart in UP_TO_FOUR + SEVENS:
            if height(chart) >= 2:
                for power in (len(chart), len(chart) + 1, 60, 1000):
                    self.assertEqual(root_count(chart, power), 0, (chart, power))
                self.assertLess(max(rooted(chart, 60)), len(chart), chart)

    def test_c2_all_on_rings(self):
        for chart in FACT_CHARTS:
            if height(chart) == 0:
                for power in POWERS:
                    self.assertEqual(root_count(chart, power), ring_root_count(chart, power), (chart, power))

    def test_c2_product_over_lengths(self):
        for chart in FACT_CHARTS:
            for power in POWERS:
                wanted = 1
                for length in {len(ring) for ring in rings(chart)}:
                    alike = [ring for ring in rings(chart) if len(ring) == length]
                    if len(alike) > 6:
                        alike = alike[:6]
                        wanted = None
                        break
                    wanted *= sum(
                        math.prod(math.factorial(len(heap) - 1) * length ** (len(heap) - 1) for heap in way)
                        for way in ways_to_share(alike, length, power)
                    )
                if wanted is not None:
                    self.assertEqual(ring_root_count(chart, power), wanted, (chart, power))

    def test_c2_roots_lead_ring_places_by_roots(self):
        for chart in UP_TO_FOUR + SEVENS:
            for power in POWERS:
                for root in some_roots(chart, power):
                    ringed = on_rings(chart)
                    self.assertEqual(tuple(sorted(root[place] for place in ringed)), ringed, (chart, power, root))
                    alone = tuple(ringed.index(chart[place]) for place in ringed)
                    self.assertTrue(is_root(alone, power, tuple(ringed.index(root[place]) for place in ringed)))

    def test_c2_no_root_if_barred(self):
        for chart in UP_TO_FOUR + SEVENS:
            for power in POWERS:
                if barred_lengths(chart, power):
                    self.assertEqual([root_count(chart, power), ring_root_count(chart, power)], [0, 0], (chart, power))
                else:
                    self.assertGreater(ring_root_count(chart, power), 0, (chart, power))

    def test_c2_the_least_fitting_number(self):
        for chart in FACT_CHARTS:
            lengths = [len(ring) for ring in rings(chart)]
            for power in (*POWERS, 6, 8, 9, 10, 30, 999):
                for length in sorted(set(lengths)):
                    # It may be greater than the numbers up to ten.
                    least = [d for d in range(1, 1001) if math.gcd(d * length, power) == d][0]
                    barred = lengths.count(length) % least != 0
                    self.assertEqual(length in barred_lengths(chart, power), barred, (chart, power, length))

    def test_c3_roots_of_roots(self):
        for chart in UP_TO_FOUR + SEVENS:
            for r, s in ((2, 2), (2, 3), (3, 2)) if len(chart) == 4 else ((2, 2), (2, 3), (3, 2), (5, 7), (3, 1)):
                for outer in some_roots(chart, r)[:4]:
                    for inner in some_roots(outer, s)[:4]:
                        self.assertTrue(is_root(chart, r * s, inner), (chart, r, s))
                for both in some_roots(chart, r * s):
                    self.assertTrue(is_root(chart, r, step(both, s)), (chart, r, s))

    def test_c4_far_steps_that_are_roots(self):
        for chart in FACT_CHARTS:
            for power in range(1, 40):
                wanted = power == 1 or (height(chart) <= 1 and math.gcd(power, period(chart)) == 1)
                found = step_root(chart, power)
                self.assertEqual(found is not None, wanted, (chart, power))
                if wanted:
                    self.assertTrue(is_root(chart, power, step(chart, found)), (chart, power))

    def test_c5_roots_go_along(self):
        for root in FACT_CHARTS:
            for power in POWERS:
                chart = step(root, power)
                self.assertTrue(goes_along(chart, root) and goes_along(root, chart), (root, power))
        for chart in UP_TO_FOUR + SEVENS:
            for power in (2, 3, 1000):
                for root in some_roots(chart, power):
                    self.assertTrue(goes_along(chart, root) and goes_along(root, chart), (chart, power, root))

    def test_a_first_root_is_there_exactly_if_some_is(self):
        for chart in UP_TO_FOUR:
            for power in POWERS:
                if root_count(chart, power):
                    self.assertEqual(first_root(chart, power), nth_root(chart, power, 0))
                    self.assertTrue(power > 12 or power in rooted(chart, 12))
        with self.assertRaises(TooMany):
            first_root((0,) * 9, 1)


if __name__ == "__main__":
    unittest.main()
