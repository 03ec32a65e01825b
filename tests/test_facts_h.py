"""The facts H1 to H6, over all charts of up to four places and numbers of places up to ten."""

import itertools
import math
import unittest

from everynext.chart_counts import (
    depth_totals, height_counts, nth_by_reached, nth_by_ring_places, period_counts, piece_counts, reached_counts,
    reached_rank, returning_count, ring_length_count, ring_place_counts, ring_places_rank,
)
from everynext.charts import image, step
from everynext.marked_trees import marked_tree, tree_way
from everynext.rings import height, on_rings, period, rings
from tests.helpers import FACT_CHARTS, all_charts, all_parts

COUNTS = range(1, 11)


def ascending_lengths(total, least=1):
    """All tuples of lengths with this sum, none less than the one ahead of it."""
    if total == 0:
        return [()]
    return [
        (length,) + rest for length in range(least, total + 1) for rest in ascending_lengths(total - length, length)
    ]


def partings(count, lots):
    """In how many ways so many places are parted in so many lots."""
    if count == 0 or lots == 0:
        return 1 if count == lots else 0
    return lots * partings(count - 1, lots) + partings(count - 1, lots - 1)


class FactsTest(unittest.TestCase):
    def test_h1_ring_places(self):
        for count in COUNTS:
            wanted = [0] + [
                math.comb(count, k) * math.factorial(k) * k * count ** (count - k - 1) for k in range(1, count)
            ] + [math.factorial(count)]
            self.assertEqual(ring_place_counts(count), wanted)
        for count in range(1, 5):
            ways = [len(tree_way(*marked_tree(chart))) for chart in all_charts(count)]
            self.assertEqual(ring_place_counts(count), [ways.count(k) for k in range(count + 1)])

    def test_h2_reached(self):
        for count in range(1, 8):
            for lots in range(count + 1):
                self.assertEqual(partings(count, lots), len([row for row in all_parts(count) if len(row) == lots]))
        for count in COUNTS:
            wanted = [math.perm(count, j) * partings(count, j) for j in range(count + 1)]
            self.assertEqual(reached_counts(count), wanted)

    def test_h3_sums(self):
        for count in COUNTS:
            full = count ** count
            for function in (ring_place_counts, reached_counts, piece_counts, height_counts):
                self.assertEqual(sum(function(count)), full, (function, count))
            self.assertEqual(sum(many for _, many in period_counts(count)), full)
            self.assertEqual(sum(depth_totals(count)), count * full)
            self.assertEqual(depth_totals(count)[0], sum(k * many for k, many in enumerate(ring_place_counts(count))))
            for depth in range(count):
                wanted = sum(
                    math.perm(count, depth + m) * count ** (count - depth - m) for m in range(1, count - depth + 1)
                )
                self.assertEqual(depth_totals(count)[depth], wanted, (count, depth))

    def test_h4_lengths(self):
        for count in COUNTS:
            found = {k: [ring_length_count(count, row) for row in ascending_lengths(k)] for k in range(1, count + 1)}
            self.assertEqual(ring_place_counts(count)[1:], [sum(found[k]) for k in range(1, count + 1)])
            pieces = [0] * (count + 1)
            periods = {}
            for k in range(1, count + 1):
                for row in ascending_lengths(k):
                    pieces[len(row)] += ring_length_count(count, row)
                    periods[math.lcm(*row)] = periods.get(math.lcm(*row), 0) + ring_length_count(count, row)
            self.assertEqual(piece_counts(count), pieces)
            self.assertEqual(period_counts(count), sorted(periods.items()))
        for count in range(1, 5):
            found = [tuple(sorted(len(ring) for ring in rings(chart))) for chart in all_charts(count)]
            for k in range(1, count + 1):
                for row in ascending_lengths(k):
                    self.assertEqual(ring_length_count(count, row), found.count(row), (count, row))

    def test_h5_far_steps(self):
        for count in range(1, 5):
            charts = [(height(chart), period(chart), chart) for chart in all_charts(count)]
            for j, p in itertools.product((0, 1, 2, 3, 10 ** 50), (1, 2, 3, 4, 6, 12, 35)):
                wanted = len([chart for high, turn, chart in charts if high <= j and p % turn == 0])
                self.assertEqual(returning_count(count, j, p), wanted, (count, j, p))
                if j < 4:
                    same = [chart for _, _, chart in charts if step(chart, j) == step(chart, j + p)]
                    self.assertEqual(wanted, len(same), (count, j, p))
        for count in COUNTS:
            self.assertEqual(returning_count(count, 0, 1), 1)
            self.assertEqual(returning_count(count, count - 1, 2520), count ** count)
            for most in range(count):
                self.assertEqual(returning_count(count, most, 2520), sum(height_counts(count)[:most + 1]))
            for p in (1, 2, 3, 4, 6, 30, 2520):
                wanted = sum(many for turn, many in period_counts(count) if p % turn == 0)
                self.assertEqual(returning_count(count, 10 ** 70, p), wanted, (count, p))

    def test_h6_ring_places_there_and_back(self):
        for chart in FACT_CHARTS:
            found = nth_by_ring_places(len(chart), len(on_rings(chart)), ring_places_rank(chart))
            self.assertEqual(found, chart)
        for count in COUNTS:
            for size, many in enumerate(ring_place_counts(count)):
                for number in {0, many // 2, many - 1} if many > 0 else ():
                    chart = nth_by_ring_places(count, size, number)
                    self.assertEqual((len(on_rings(chart)), ring_places_rank(chart)), (size, number), chart)

    def test_h6_reached_there_and_back(self):
        for chart in FACT_CHARTS:
            self.assertEqual(nth_by_reached(len(chart), len(image(chart)), reached_rank(chart)), chart)
        for count in COUNTS:
            for size, many in enumerate(reached_counts(count)):
                for number in {0, many // 2, many - 1} if many > 0 else ():
                    chart = nth_by_reached(count, size, number)
                    self.assertEqual((len(image(chart)), reached_rank(chart)), (size, number), chart)


if __name__ == "__main__":
    unittest.main()
