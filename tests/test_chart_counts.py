"""Points [27] and [28]: how many charts of so many places there are, and the one with an index among them."""

import math
import unittest

from everynext.chart_counts import (
    depth_totals, height_counts, nth_by_reached, nth_by_ring_places, period_counts, piece_counts, reached_counts,
    reached_rank, returning_count, ring_length_count, ring_place_counts, ring_places_rank,
)
from everynext.errors import InvalidChart, InvalidCount, InvalidLengths
from tests.helpers import (
    CHARTS_OF_TEN, EACH_ITS_OWN, LONG_WAY, NINETY_DIGITS, NOT_CHARTS, NOT_LENGTHS, NOT_NUMBERS, ONE, ONE_RING, STAR,
    all_charts, is_plainly_on_ring, mixed_chart, not_within, plain_depth, plain_ring_of, plain_step, raised_by,
    told_in_time,
)

LISTS = (ring_place_counts, reached_counts, piece_counts, height_counts, period_counts, depth_totals)
# Of so many places all charts can be looked at.
UP_TO_FIVE = {count: all_charts(count) for count in range(1, 6)}


def plain_rings(chart):
    return {plain_ring_of(chart, place) for place in range(len(chart))}


def plain_depths(chart):
    return [plain_depth(chart, place) for place in range(len(chart))]


def count_on_rings(chart):
    return sum(is_plainly_on_ring(chart, place) for place in range(len(chart)))


def shares(values, bound):
    values = list(values)
    return [values.count(value) for value in range(bound)]


class ListsTest(unittest.TestCase):
    def test_all_charts_looked_at(self):
        for count, charts in UP_TO_FIVE.items():
            ringed = shares((count_on_rings(chart) for chart in charts), count + 1)
            self.assertEqual(ring_place_counts(count), ringed)
            self.assertEqual(reached_counts(count), shares((len(set(chart)) for chart in charts), count + 1))
            found = [plain_rings(chart) for chart in charts]
            self.assertEqual(piece_counts(count), shares((len(rings) for rings in found), count + 1))
            periods = [math.lcm(*[len(ring) for ring in rings]) for rings in found]
            wanted = [(period, periods.count(period)) for period in sorted(set(periods))]
            self.assertEqual(period_counts(count), wanted)
            depths = [plain_depths(chart) for chart in charts]
            self.assertEqual(height_counts(count), shares((max(row) for row in depths), count))
            self.assertEqual(depth_totals(count), shares((depth for row in depths for depth in row), count))

    def test_one_place(self):
        self.assertEqual([ring_place_counts(1), reached_counts(1), piece_counts(1)], [[0, 1]] * 3)
        self.assertEqual([height_counts(1), period_counts(1), depth_totals(1)], [[1], [(1, 1)], [1]])

    def test_ten_places(self):
        for function in LISTS:
            told_in_time(self, function, 10)
        self.assertEqual(ring_place_counts(10)[1], 10 ** 9)
        self.assertEqual([ring_place_counts(10)[10], reached_counts(10)[10]], [math.factorial(10)] * 2)
        self.assertEqual([reached_counts(10)[:3], reached_counts(10)[9]], [[0, 10, 45 * 1022], 163296000])
        self.assertEqual([piece_counts(10)[0], piece_counts(10)[10]], [0, 1])
        # The ways of ten places that end in one that is its own next place.
        self.assertEqual([height_counts(10)[9], height_counts(10)[0]], [math.factorial(10), math.factorial(10)])
        self.assertEqual(period_counts(10)[-1], (30, math.factorial(10) // 30))
        self.assertEqual(
            [period for period, _ in period_counts(10)], [1, 2, 3, 4, 5, 6, 7, 8, 9, 10, 12, 14, 15, 20, 21, 30]
        )
        self.assertEqual(depth_totals(10)[9], math.factorial(10))
        self.assertEqual([len(function(10)) for function in LISTS], [11, 11, 11, 10, 16, 10])

    def test_wrong_numbers_of_places(self):
        for function in LISTS:
            for wrong in not_within(10):
                self.assertEqual(raised_by(self, function, wrong)[0], InvalidCount, (function, wrong))


class LengthsTest(unittest.TestCase):
    def test_all_charts_looked_at(self):
        for count, charts in UP_TO_FIVE.items():
            found = [tuple(sorted(len(ring) for ring in plain_rings(chart))) for chart in charts]
            for lengths in set(found):
                self.assertEqual(ring_length_count(count, lengths), found.count(lengths), (count, lengths))

    def test_edges(self):
        self.assertEqual(
            [ring_length_count(1, (1,)), ring_length_count(1, (2,)), ring_length_count(1, (1, 1))], [1, 0, 0]
        )
        self.assertEqual([ring_length_count(10, (1,)), ring_length_count(10, (10,))], [10 ** 9, math.factorial(9)])
        self.assertEqual(ring_length_count(10, (1,) * 10), 1)
        self.assertEqual(ring_length_count(10, (2, 2, 2, 2, 2)), 945)
        self.assertEqual(ring_length_count(10, (1, 2, 3, 4)), math.factorial(10) // 24)
        self.assertEqual(ring_length_count(10, (1, 1, 2)), 10 * 9 * 8 * 7 // 4 * 4 * 10 ** 5)

    def test_lengths_that_are_too_many(self):
        for lengths in (
            (11,), (1,) * 11, (1, 10), (5, 6), (NINETY_DIGITS,), (1, NINETY_DIGITS), (1,) * 3000, (3, 3, 3, 3)
        ):
            self.assertEqual(told_in_time(self, ring_length_count, 10, lengths), 0, lengths)
        self.assertEqual([ring_length_count(6, (7,)), ring_length_count(6, (1, 1, 1, 1, 1, 2))], [0, 0])

    def test_errors(self):
        for wrong in NOT_LENGTHS:
            self.assertEqual(raised_by(self, ring_length_count, 4, wrong)[0], InvalidLengths, wrong)
            self.assertEqual(raised_by(self, ring_length_count, 10, wrong)[0], InvalidLengths, wrong)
            self.assertEqual(raised_by(self, ring_length_count, 0, wrong)[0], InvalidCount, wrong)
        for wrong in not_within(10):
            self.assertEqual(raised_by(self, ring_length_count, wrong, (1,))[0], InvalidCount, wrong)


class ReturningTest(unittest.TestCase):
    def test_all_charts_looked_at(self):
        for count in (1, 2, 3, 4):
            for number in (0, 1, 2, 3, 4, 9):
                for further in (1, 2, 3, 4, 5, 6, 12):
                    found = [
                        chart for chart in UP_TO_FIVE[count]
                        if plain_step(chart, number) == plain_step(chart, number + further)
                    ]
                    self.assertEqual(returning_count(count, number, further), len(found), (count, number, further))

    def test_edges(self):
        self.assertEqual([returning_count(1, 0, 1), returning_count(1, NINETY_DIGITS, NINETY_DIGITS)], [1, 1])
        self.assertEqual([returning_count(10, 0, 1), returning_count(10, 0, 2)], [1, 9496])
        self.assertEqual(returning_count(10, 0, 2520), math.factorial(10))
        self.assertEqual([returning_count(10, 9, 2520), returning_count(10, 10 ** 89, 2520 * 10 ** 80)], [10 ** 10] * 2)
        self.assertEqual(returning_count(10, 8, 2520), 10 ** 10 - math.factorial(10))
        self.assertEqual(returning_count(10, NINETY_DIGITS, 1), 11 ** 9)
        # A number that only 1 of the numbers up to ten divides.
        self.assertEqual(returning_count(10, 9, 2520 * 10 ** 85 + 1), 11 ** 9)

    def test_in_time(self):
        for number in (0, 1, 5, 9, 10, NINETY_DIGITS):
            for further in (1, 6, 2520, NINETY_DIGITS):
                told_in_time(self, returning_count, 10, number, further)

    def test_errors(self):
        for wrong in NOT_NUMBERS:
            self.assertEqual(raised_by(self, returning_count, 3, wrong, 1)[0], InvalidCount, wrong)
            self.assertEqual(raised_by(self, returning_count, 3, 1, wrong)[0], InvalidCount, wrong)
        self.assertEqual(raised_by(self, returning_count, 3, 0, 0)[0], InvalidCount)
        for wrong in not_within(10):
            self.assertEqual(raised_by(self, returning_count, wrong, 1, 1)[0], InvalidCount, wrong)


class IndexTest(unittest.TestCase):
    def assert_in_their_sequence(self, nth, rank, size_of):
        for count, charts in UP_TO_FIVE.items():
            for size in range(1, count + 2):
                found = [chart for chart in charts if size_of(chart) == size]
                numbers = sorted({*range(0, len(found), 1 + len(found) // 70), len(found) - 1} - {-1})
                for number in numbers:
                    self.assertEqual(nth(count, size, number), found[number], (count, size, number))
                    self.assertEqual(rank(found[number]), number)
                for number in (len(found), len(found) + 1, NINETY_DIGITS):
                    self.assertIsNone(nth(count, size, number), (count, size, number))
            for size in (count + 1, 11, NINETY_DIGITS):
                self.assertIsNone(nth(count, size, 0), (count, size))

    def test_by_ring_places(self):
        self.assert_in_their_sequence(nth_by_ring_places, ring_places_rank, count_on_rings)

    def test_by_reached(self):
        self.assert_in_their_sequence(nth_by_reached, reached_rank, lambda chart: len(set(chart)))

    def test_ten_places(self):
        for counts, nth, rank in (
            (ring_place_counts(10), nth_by_ring_places, ring_places_rank),
            (reached_counts(10), nth_by_reached, reached_rank),
        ):
            for size in range(1, 11):
                ahead = None
                for number in (0, 1, counts[size] // 3, counts[size] - 2, counts[size] - 1):
                    if 0 <= number < counts[size]:
                        chart = told_in_time(self, nth, 10, size, number)
                        self.assertEqual(told_in_time(self, rank, chart), number, chart)
                        self.assertTrue(ahead is None or ahead <= chart)
                        ahead = chart
                for number in (counts[size], counts[size] + 1, NINETY_DIGITS):
                    self.assertIsNone(told_in_time(self, nth, 10, size, number))

    def test_edges(self):
        self.assertEqual([nth_by_ring_places(1, 1, 0), nth_by_reached(1, 1, 0)], [ONE, ONE])
        self.assertEqual([nth_by_ring_places(1, 2, 0), nth_by_reached(1, 1, 1)], [None, None])
        self.assertEqual([nth_by_ring_places(10, 1, 0), nth_by_reached(10, 1, 7)], [(0,) * 10, STAR])
        self.assertEqual([nth_by_ring_places(10, 10, 0), nth_by_reached(10, 10, 0)], [EACH_ITS_OWN] * 2)
        self.assertEqual(nth_by_ring_places(10, 10, math.factorial(10) - 1), EACH_ITS_OWN[::-1])
        self.assertEqual(nth_by_reached(10, 10, math.factorial(10) - 1), EACH_ITS_OWN[::-1])
        self.assertEqual([ring_places_rank(ONE), reached_rank(ONE), ring_places_rank(EACH_ITS_OWN)], [0, 0, 0])
        self.assertEqual([ring_places_rank(STAR), reached_rank(STAR), reached_rank(EACH_ITS_OWN)], [777777770, 7, 0])
        self.assertEqual([ring_places_rank((0,) * 10), ring_places_rank((9,) * 10)], [0, 10 ** 9 - 1])

    def test_sizes_of_charts_of_ten(self):
        for chart in CHARTS_OF_TEN + [mixed_chart(10, seed) for seed in range(3, 9)] + [ONE_RING, LONG_WAY]:
            number = told_in_time(self, ring_places_rank, chart)
            self.assertEqual(nth_by_ring_places(10, count_on_rings(chart), number), chart)
            number = told_in_time(self, reached_rank, chart)
            self.assertEqual(nth_by_reached(10, len(set(chart)), number), chart)

    def test_errors(self):
        for nth in (nth_by_ring_places, nth_by_reached):
            for wrong in not_within(10):
                self.assertEqual(raised_by(self, nth, wrong, 1, 0)[0], InvalidCount, wrong)
            for wrong in NOT_NUMBERS:
                self.assertEqual(raised_by(self, nth, 3, wrong, 0)[0], InvalidCount, wrong)
                self.assertEqual(raised_by(self, nth, 3, 1, wrong)[0], InvalidCount, wrong)
                # A count above the number of places is no wrong one, so the number is looked at.
                self.assertEqual(raised_by(self, nth, 3, 4, wrong)[0], InvalidCount, wrong)
            self.assertEqual(raised_by(self, nth, 3, 0, 0)[0], InvalidCount)
        for rank in (ring_places_rank, reached_rank):
            for wrong in NOT_CHARTS:
                self.assertEqual(raised_by(self, rank, wrong)[0], InvalidChart, wrong)


if __name__ == "__main__":
    unittest.main()
