"""The facts D1 to D5, over all charts of up to four places and some of up to ten."""

import itertools
import math
import unittest

from everynext.along import (
    along_count, along_number, fewest_values, first_through, goals, goes_along, goes_to, going_parts, nth_along,
    step_count, step_number,
)
from everynext.charts import behind, leading, step
from everynext.keeping import is_keeping, keep_count, nth_keeping
from everynext.rings import children, height, period, ring_of, rings
from tests.helpers import CHARTS_OF_FOUR, FACT_CHARTS, SMALL_CHARTS, all_charts, plain_along

UP_TO_FOUR = SMALL_CHARTS + CHARTS_OF_FOUR


def some_along(chart):
    """Some of the charts that go along, the first and the last one among them."""
    count = along_count(chart)
    numbers = {0, 1, count // 5, count // 3, count // 2, count - 2, count - 1}
    return [nth_along(chart, number) for number in sorted(numbers) if 0 <= number < count]


def ways_down(chart, place, goal):
    """In how many ways the tree over the place can be led if the place is led to the goal."""
    return math.prod(
        sum(ways_down(chart, child, ahead) for ahead in leading(chart, goal)) for child in children(chart, place)
    )


def ways_of_piece(chart, ring):
    told = 0
    for other in rings(chart):
        if len(ring) % len(other) == 0:
            for begin in range(len(other)):
                goal_of = [other[(begin + index) % len(other)] for index in range(len(ring))]
                told += math.prod(ways_down(chart, place, goal) for place, goal in zip(ring, goal_of))
    return told


class FactsTest(unittest.TestCase):
    def test_d1_product_over_pieces(self):
        for chart in FACT_CHARTS:
            wanted = math.prod(ways_of_piece(chart, ring) for ring in rings(chart))
            self.assertEqual(along_count(chart), wanted, chart)
        for chart in UP_TO_FOUR:
            self.assertEqual(along_count(chart), len(plain_along(chart)), chart)

    def test_d2_far_steps(self):
        for chart in FACT_CHARTS:
            for number in (0, 1, 2, 3, 7, 10 ** 60):
                self.assertTrue(goes_along(chart, step(chart, number)), (chart, number))

    def test_d2_one_behind_the_other(self):
        for chart in FACT_CHARTS:
            for one, two in itertools.product(some_along(chart), repeat=2):
                self.assertTrue(goes_along(chart, behind(one, two)), (chart, one, two))

    def test_d2_goals_of_goals(self):
        for chart in FACT_CHARTS:
            found = [goals(chart, place) for place in range(len(chart))]
            for place in range(len(chart)):
                for goal in found[place]:
                    self.assertTrue(set(found[goal]) <= set(found[place]), (chart, place, goal))
                    self.assertIn(chart[goal], found[chart[place]], (chart, place, goal))
                    lengths = len(ring_of(chart, place)), len(ring_of(chart, goal))
                    self.assertEqual(lengths[0] % lengths[1], 0, (chart, place, goal))
                    self.assertEqual(first_through(chart, ((place, goal),))[place], goal)

    def test_d2_parts_of_goals(self):
        for chart in FACT_CHARTS:
            parts = going_parts(chart)
            self.assertEqual(sorted(sum(parts, ())), list(range(len(chart))), chart)
            for x, y in itertools.product(range(len(chart)), repeat=2):
                both = goes_to(chart, x, y) and goes_to(chart, y, x) if len(chart) < 5 else None
                if both is not None:
                    self.assertEqual(any(x in part and y in part for part in parts), both, (chart, x, y))

    def test_d3_rows_that_keep(self):
        for chart in UP_TO_FOUR:
            found = [other for other in plain_along(chart) if len(set(other)) == len(chart)]
            self.assertEqual(found, [nth_keeping(chart, number) for number in range(keep_count(chart))], chart)
        for chart in FACT_CHARTS:
            count = keep_count(chart)
            for number in {0, count // 2, count - 1}:
                self.assertTrue(goes_along(chart, nth_keeping(chart, number)), chart)
            for other in some_along(chart):
                self.assertEqual(is_keeping(chart, other), len(set(other)) == len(chart), (chart, other))

    def test_d4_fewest_values(self):
        for chart in FACT_CHARTS:
            lengths = {len(ring) for ring in rings(chart)}
            least = [m for m in lengths if not any(m % d == 0 for d in lengths if d != m)]
            self.assertEqual(fewest_values(chart), sum(least), chart)
        for chart in UP_TO_FOUR:
            self.assertEqual(fewest_values(chart), min(len(set(other)) for other in plain_along(chart)), chart)

    def test_d5_number_of_steps(self):
        for chart in FACT_CHARTS:
            self.assertEqual(step_count(chart), height(chart) + period(chart), chart)
            self.assertGreaterEqual(along_count(chart), step_count(chart), chart)
            for number in range(step_count(chart)):
                self.assertEqual(step_number(chart, step(chart, number)), number, chart)
                self.assertLess(along_number(chart, step(chart, number)), along_count(chart))

    def test_d5_both_ways(self):
        for count in (1, 2, 3, 4):
            for chart, other in itertools.product(all_charts(count), repeat=2):
                self.assertEqual(goes_along(chart, other), goes_along(other, chart), (chart, other))
        for chart in FACT_CHARTS:
            for other in some_along(chart):
                self.assertTrue(goes_along(other, chart), (chart, other))


if __name__ == "__main__":
    unittest.main()
