"""Points [16] and [17]: roots."""

import functools
import itertools
import math
import unittest

from everynext.codes import chart_by_code, kinds
from everynext.errors import InvalidChart, InvalidCount, NoRoot, Refused, TooMany
from everynext.roots import (
    barred_lengths, first_root, fitting, is_root, nth_root, ring_root_count, root_count, root_number, rooted, step_root,
)
from tests.helpers import (
    BUSHES, CHARTS, CHARTS_OF_FOUR, CHARTS_OF_TEN, EACH_ITS_OWN, EAR, FACT_CHARTS, LENGTHS_THAT_DIVIDE, LONG_WAY,
    LONG_WAY_TO_TWO, NINETY_DIGITS, NOT_CHARTS, NOT_ROWS, ONE, ONE_RING, PERIOD_THIRTY, SMALL_CHARTS, STAR,
    THREE_ALIKE_RINGS, all_charts, mixed_chart, plain_ring_of, plain_step, raised_by, told_in_time,
)

POWERS = [1, 2, 3, 4, 5, 6, 7, 12, 1000]


@functools.lru_cache(maxsize=None)
def roots_by_chart(count, power):
    """For each chart of so many places its roots, found among all charts."""
    told = {}
    for chart in all_charts(count):
        told.setdefault(plain_step(chart, power), []).append(chart)
    return told


def plain_roots(chart, power):
    return roots_by_chart(len(chart), power).get(chart, [])


def charts_looked_at():
    """Charts whose roots can all be found among all charts of as many places, with the powers to do so."""
    for chart in SMALL_CHARTS + CHARTS_OF_FOUR:
        for power in POWERS:
            yield chart, power
    for chart in [chart_by_code(code) for code in kinds(5)] + [(4, 4, 0, 4, 4), (1, 0, 4, 4, 3), (2, 4, 3, 2, 0)]:
        for power in (2, 3, 4):
            yield chart, power
    for chart in [chart_by_code(code)[::-1] for code in kinds(6)]:
        yield tuple(5 - place for place in chart), 2


def ring_lengths(chart):
    return [len(ring) for ring in {plain_ring_of(chart, place) for place in range(len(chart))}]


def is_sum_of_fitting(number, length, power):
    """Whether the number is a sum of numbers d with d the greatest common divisor of d * length and the power."""
    found = [d for d in range(1, number + 1) if math.gcd(d * length, power) == d]
    return number == 0 or any(is_sum_of_fitting(number - d, length, power) for d in found)


class RootsTest(unittest.TestCase):
    def test_small_charts(self):
        for chart, power in charts_looked_at():
            wanted = plain_roots(chart, power)
            self.assertEqual(root_count(chart, power), len(wanted), (chart, power))
            found = [nth_root(chart, power, number) for number in range(min(len(wanted), 30))]
            self.assertEqual(found, wanted[:30], (chart, power))
            self.assertIsNone(nth_root(chart, power, len(wanted)), (chart, power))
            self.assertIsNone(nth_root(chart, power, NINETY_DIGITS), (chart, power))
            for number in range(0, len(wanted), len(wanted) // 5 + 1):
                self.assertEqual(root_number(chart, power, wanted[number]), number, (chart, power))

    def test_first_root(self):
        for chart, power in charts_looked_at():
            wanted = plain_roots(chart, power)
            if wanted:
                self.assertEqual(first_root(chart, power), wanted[0], (chart, power))
            else:
                lengths = sorted(set(ring_lengths(chart)))
                barred = [m for m in lengths if not is_sum_of_fitting(ring_lengths(chart).count(m), m, power)]
                told = NoRoot, {"length": (barred + [0])[0]}
                self.assertEqual(raised_by(self, first_root, chart, power), told, (chart, power))

    def test_is_root(self):
        for chart in SMALL_CHARTS:
            for power in POWERS:
                for other in SMALL_CHARTS:
                    wanted = plain_step(other, power) == chart
                    self.assertIs(is_root(chart, power, other), wanted, (chart, power, other))
        for chart in CHARTS_OF_TEN:
            for power in (1, 2, 7, 1000):
                self.assertIs(is_root(plain_step(chart, power), power, chart), True)
                self.assertIs(is_root(chart, power, chart), plain_step(chart, power) == chart)

    def test_is_root_of_other_values(self):
        for value in NOT_CHARTS + NOT_ROWS + [ONE, (0, 1), STAR, list(EAR)]:
            if value != (1, 2, 1, 2):
                for power in (1, 2, 3):
                    self.assertIs(is_root(EAR, power, value), False, value)

    def test_refused(self):
        for chart in SMALL_CHARTS:
            for power in (1, 2, 3):
                for other in all_charts(len(chart)):
                    if other not in plain_roots(chart, power):
                        self.assertEqual(raised_by(self, root_number, chart, power, other)[0], Refused)

    def test_power_one(self):
        for chart in SMALL_CHARTS:
            self.assertEqual([root_count(chart, 1), first_root(chart, 1), root_number(chart, 1, chart)], [1, chart, 0])
            self.assertEqual([nth_root(chart, 1, 0), nth_root(chart, 1, 1)], [chart, None])

    def test_most_powers(self):
        star = (0, 0, 0)
        self.assertEqual([root_count(star, 1000), root_count(star, 2), first_root(star, 1000)], [3, 3, star])
        self.assertEqual(root_count((1, 0), 999), 1)
        self.assertEqual(root_count((1, 0), 1000), 0)
        for power in (0, 1001, -1, True, NINETY_DIGITS, None, "2"):
            for function in (root_count, first_root, barred_lengths, ring_root_count, step_root):
                self.assertEqual(raised_by(self, function, EAR, power)[0], InvalidCount, (function, power))

    def test_seven_places_in_time(self):
        seven = tuple(range(7))
        star = (6,) * 7
        # The roots of a star are the trees with the same place at their root.
        self.assertEqual(told_in_time(self, root_count, star, 6), 7 ** 5)
        self.assertEqual(told_in_time(self, root_count, star, 1000), 7 ** 5)
        self.assertEqual(told_in_time(self, nth_root, star, 1000, 7 ** 5 - 1), (6, 6, 6, 6, 6, 6, 6))
        self.assertEqual(told_in_time(self, nth_root, star, 1000, 0), (1, 2, 3, 4, 5, 6, 6))
        self.assertIsNone(told_in_time(self, nth_root, star, 1000, 7 ** 5))
        self.assertEqual(told_in_time(self, root_number, star, 6, star), 7 ** 5 - 1)
        self.assertEqual(told_in_time(self, root_count, seven, 420), math.factorial(7))
        self.assertEqual(told_in_time(self, nth_root, seven, 420, math.factorial(7) - 1), seven[::-1])
        self.assertEqual(told_in_time(self, root_number, seven, 840, seven[::-1]), math.factorial(7) - 1)
        self.assertIsNone(told_in_time(self, nth_root, seven, 840, NINETY_DIGITS))

    def test_seven_places(self):
        for chart in [mixed_chart(7, seed) for seed in range(1, 13)] + [(1, 2, 0, 0, 1, 3, 3), (0, 0, 0, 3, 3, 3, 3)]:
            for power in (2, 3):
                cube = plain_step(chart, power)
                count = told_in_time(self, root_count, cube, power)
                found = [told_in_time(self, nth_root, cube, power, k) for k in range(0, count, count // 9 + 1)]
                self.assertEqual(found, sorted(found))
                self.assertTrue(all(plain_step(root, power) == cube for root in found), (chart, power))
                index = told_in_time(self, root_number, cube, power, chart)
                self.assertEqual(nth_root(cube, power, index), chart)
                self.assertEqual([nth_root(cube, power, count), index < count], [None, True])


class TooManyTest(unittest.TestCase):
    def test_more_than_seven_places(self):
        for chart in ((0,) * 8, (0,) * 9, LONG_WAY, BUSHES, (1, 0, 3, 2, 5, 4, 7, 7), (0, 0, 1, 2, 3, 4, 5, 6, 7)):
            for power in (1, 2, 1000):
                self.assertEqual(raised_by(self, root_count, chart, power), (TooMany, {"count": 7}))
                self.assertEqual(raised_by(self, nth_root, chart, power, 0), (TooMany, {"count": 7}))
                self.assertEqual(raised_by(self, nth_root, chart, power, NINETY_DIGITS), (TooMany, {"count": 7}))
            self.assertEqual(raised_by(self, rooted, chart, 1), (TooMany, {"count": 7}))
            self.assertEqual(raised_by(self, root_number, chart, 1, chart), (TooMany, {"count": 7}))

    def test_all_on_rings(self):
        for chart in (tuple(range(8)), EACH_ITS_OWN, ONE_RING, PERIOD_THIRTY):
            self.assertEqual(root_count(chart, 1), 1)
            self.assertEqual(root_count(chart, 7), ring_root_count(chart, 7))
            self.assertEqual(raised_by(self, nth_root, chart, 1, 0), (TooMany, {"count": 7}))
            self.assertEqual(raised_by(self, root_number, chart, 1, chart), (TooMany, {"count": 7}))
            self.assertEqual(raised_by(self, rooted, chart, 60), (TooMany, {"count": 7}))

    def test_errors_ahead(self):
        eight = (0,) * 8
        self.assertEqual(raised_by(self, nth_root, eight, 1001, -1)[0], InvalidCount)
        self.assertEqual(raised_by(self, nth_root, eight, 1, True)[0], InvalidCount)
        self.assertEqual(raised_by(self, root_number, eight, 2, (0,) * 7)[0], InvalidChart)
        self.assertEqual(raised_by(self, root_number, eight, 2, list(eight))[0], InvalidChart)
        # Refused stands ahead of TooMany.
        self.assertEqual(raised_by(self, root_number, eight, 2, (1,) * 8)[0], Refused)
        self.assertEqual(raised_by(self, root_number, EACH_ITS_OWN, 3, ONE_RING)[0], Refused)
        self.assertEqual(raised_by(self, root_number, EACH_ITS_OWN, 10, ONE_RING), (TooMany, {"count": 7}))
        for steps in (0, 61, -1, False, None, NINETY_DIGITS):
            self.assertEqual(raised_by(self, rooted, eight, steps)[0], InvalidCount)

    def test_first_root_of_eight_and_nine_places(self):
        self.assertEqual(told_in_time(self, first_root, (0,) * 8, 1000), (0,) * 8)
        self.assertEqual(told_in_time(self, first_root, (7,) * 8, 1000), (1, 2, 3, 4, 5, 6, 7, 7))
        self.assertEqual(told_in_time(self, first_root, tuple(range(8)), 8), tuple(range(8)))
        self.assertEqual(raised_by(self, first_root, (1, 0, 3, 2, 5, 4, 7, 7), 2), (NoRoot, {"length": 2}))
        # Nine places are too many, ahead of what would bar the root.
        self.assertEqual(raised_by(self, first_root, (1, 0, 3, 2, 5, 4, 7, 7, 7), 2), (TooMany, {"count": 8}))
        for chart in CHARTS_OF_TEN + [(0,) * 9]:
            self.assertEqual(raised_by(self, first_root, chart, 1), (TooMany, {"count": 8}))
            self.assertEqual(raised_by(self, first_root, chart, 0)[0], InvalidCount)
        eights = [(0, 0, 0, 0, 0, 0, 0, 6), (0, 0, 1, 2, 3, 4, 5, 6)] + [mixed_chart(8, seed) for seed in range(1, 9)]
        for chart in eights:
            for power in (2, 3, 5, 6, 7, 8, 1000):
                try:
                    found = told_in_time(self, first_root, chart, power)
                except NoRoot as error:
                    self.assertIn(error.length, [0] + barred_lengths(chart, power))
                else:
                    self.assertEqual(plain_step(found, power), chart)


class RootedTest(unittest.TestCase):
    def test_rooted(self):
        for chart in SMALL_CHARTS + CHARTS_OF_FOUR[::3]:
            wanted = [power for power in range(1, 14) if plain_roots(chart, power)]
            self.assertEqual(rooted(chart, 13), wanted, chart)
            self.assertEqual(rooted(chart, 1), [1], chart)

    def test_edges(self):
        self.assertEqual([rooted(ONE, 4), rooted((0, 1, 2, 3, 4, 5, 6), 60)], [[1, 2, 3, 4], list(range(1, 61))])
        self.assertEqual(told_in_time(self, rooted, (6,) * 7, 60), list(range(1, 61)))
        self.assertEqual(told_in_time(self, rooted, (0, 0, 1, 2, 3, 4, 5), 60), [1])
        self.assertEqual(rooted((1, 2, 3, 4, 5, 6, 0), 60), [k for k in range(1, 61) if k % 7 != 0])
        self.assertEqual(told_in_time(self, rooted, (1, 0, 3, 2, 5, 4, 4), 60), list(range(1, 60, 2)))
        for chart in [mixed_chart(7, seed) for seed in range(1, 9)]:
            told_in_time(self, rooted, chart, 60)


class RingsOfRootsTest(unittest.TestCase):
    def test_fitting(self):
        for length in range(1, 11):
            for power in (*range(1, 61), 360, 999, 1000):
                wanted = [d for d in range(1, 11) if math.gcd(d * length, power) == d]
                self.assertEqual(fitting(length, power), wanted, (length, power))

    def test_fitting_edges(self):
        self.assertEqual([fitting(1, 1), fitting(10, 1), fitting(10, 1000), fitting(8, 16)], [[1], [1], [], []])
        self.assertEqual(fitting(1, 840), [1, 2, 3, 4, 5, 6, 7, 8, 10])
        for wrong in (0, 11, -1, True, None, "1", [1], NINETY_DIGITS):
            self.assertEqual(raised_by(self, fitting, wrong, 0)[0], InvalidCount)
        self.assertEqual(raised_by(self, fitting, 10, 1001)[0], InvalidCount)

    def test_one_ring_falls_into_fitting_ones(self):
        for length, number in ((1, 1), (2, 3), (3, 3), (1, 10), (5, 2), (2, 5), (4, 2)):
            ring = tuple(range(1, number * length)) + (0,)
            for power in range(1, 40):
                lengths = ring_lengths(plain_step(ring, power))
                wanted = lengths == [length] * number
                self.assertEqual(number in fitting(length, power), wanted, (length, number, power))

    def test_barred_lengths(self):
        for chart in FACT_CHARTS:
            for power in (1, 2, 3, 4, 6, 8, 10, 30, 1000):
                lengths = sorted(set(ring_lengths(chart)))
                wanted = [m for m in lengths if not is_sum_of_fitting(ring_lengths(chart).count(m), m, power)]
                self.assertEqual(barred_lengths(chart, power), wanted, (chart, power))

    def test_barred_lengths_edges(self):
        self.assertEqual([barred_lengths(ONE, 1000), barred_lengths(EACH_ITS_OWN, 1000)], [[], []])
        self.assertEqual([barred_lengths(ONE_RING, 2), barred_lengths(ONE_RING, 3)], [[10], []])
        self.assertEqual(barred_lengths(PERIOD_THIRTY, 30), [2, 3, 5])
        self.assertEqual(barred_lengths(LENGTHS_THAT_DIVIDE, 2), [4])
        self.assertEqual([barred_lengths(THREE_ALIKE_RINGS, 3), barred_lengths(THREE_ALIKE_RINGS, 9)], [[], [3]])
        self.assertEqual(barred_lengths(LONG_WAY_TO_TWO, 2), [2])

    def test_ring_root_count(self):
        for chart in FACT_CHARTS:
            ringed = sorted({place for x in range(len(chart)) for place in plain_ring_of(chart, x)})
            if len(ringed) < 6:
                alone = tuple(ringed.index(chart[place]) for place in ringed)
                for power in (1, 2, 3, 4, 6, 1000):
                    wanted = len(plain_roots(alone, power))
                    self.assertEqual(ring_root_count(chart, power), wanted, (chart, power))

    def test_ring_root_count_of_ten_places(self):
        # Permutations of ten places whose second, or third, step leads each to itself.
        self.assertEqual([ring_root_count(EACH_ITS_OWN, 2), ring_root_count(EACH_ITS_OWN, 3)], [9496, 31041])
        self.assertEqual(ring_root_count(EACH_ITS_OWN, 840), 3628800 - 3628800 // 9)
        self.assertEqual([ring_root_count(ONE_RING, power) for power in (3, 2, 9)], [1, 0, 1])
        self.assertEqual(root_count(EACH_ITS_OWN, 2), 9496)
        self.assertEqual(ring_root_count((1, 0, 3, 2, 5, 4, 7, 6, 9, 9), 2), 12)
        self.assertEqual(ring_root_count(THREE_ALIKE_RINGS, 3), 18)


class StepRootTest(unittest.TestCase):
    def test_least_number(self):
        for chart in CHARTS + CHARTS_OF_FOUR:
            for power in (1, 2, 3, 4, 5, 7, 30, 31, 999, 1000):
                found = [j for j in range(45) if plain_step(chart, j * power) == chart]
                wanted = found[0] if found else None
                self.assertEqual(step_root(chart, power), wanted, (chart, power))

    def test_edges(self):
        self.assertEqual([step_root(ONE, 1), step_root(EACH_ITS_OWN, 1000)], [0, 0])
        self.assertEqual([step_root(STAR, 1), step_root(STAR, 1000)], [1, 1])
        self.assertEqual([step_root(LONG_WAY, 1), step_root(LONG_WAY, 2), step_root(ONE_RING, 7)], [1, None, 3])
        self.assertEqual([step_root(ONE_RING, 999), step_root(ONE_RING, 1000), step_root(ONE_RING, 5)], [9, None, None])
        self.assertEqual([step_root(PERIOD_THIRTY, power) for power in (7, 29, 9)], [13, 29, None])


if __name__ == "__main__":
    unittest.main()
