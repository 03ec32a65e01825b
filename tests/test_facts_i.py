"""The facts I1 to I6, over all charts of up to four places and some of up to ten."""

import itertools
import math
import unittest

from everynext.charts import step
from everynext.codes import are_alike
from everynext.errors import NoFit
from everynext.fits import (
    all_fits, can_lay, core, first_fit, fit_count, fit_image, fit_number, fit_split, go_both_ways, is_fit, nth_fit,
    onto_count,
)
from everynext.keeping import keep_count, nth_keeping
from everynext.kept_lots import is_kept, nth_kept
from everynext.likenesses import are_kept, chart_of
from everynext.rings import children, depth, pieces, rings
from tests.helpers import (
    CHARTS_OF_FOUR, CHARTS_OF_TEN, FACT_CHARTS, LARGE_CHARTS, SMALL_CHARTS, one_of_each_kind, raised_by,
)

KINDS = [chart for count in range(1, 5) for chart in one_of_each_kind(count)]
UP_TO_FOUR = SMALL_CHARTS + CHARTS_OF_FOUR
PAIRS = [(chart, other) for chart in UP_TO_FOUR for other in KINDS]
LARGE_PAIRS = list(itertools.product(CHARTS_OF_TEN[:8], LARGE_CHARTS))


def beside(chart, other):
    return chart + tuple(len(chart) + place for place in other)


def told_in_own_numbers(chart, lot):
    return tuple(lot.index(chart[place]) for place in lot)


def ways_down(chart, other, place, goal):
    return math.prod(
        sum(ways_down(chart, other, child, ahead) for ahead in range(len(other)) if other[ahead] == goal)
        for child in children(chart, place)
    )


def ways_of_piece(chart, other, ring):
    """The ways of one piece, its first ring place beginning with each place of the other chart."""
    told = 0
    for begin in range(len(other)):
        goals = [step(other, k)[begin] for k in range(len(ring))]
        if other[goals[-1]] == begin:
            told += math.prod(ways_down(chart, other, place, goal) for place, goal in zip(ring, goals))
    return told


def some_fits(chart, other):
    count = fit_count(chart, other)
    return [nth_fit(chart, other, k) for k in sorted({0, count // 3, count // 2, count - 1}) if 0 <= k < count]


class FactsTest(unittest.TestCase):
    def test_i1_product_over_pieces(self):
        for chart, other in PAIRS + LARGE_PAIRS[::2]:
            wanted = math.prod(ways_of_piece(chart, other, ring) for ring in rings(chart))
            self.assertEqual(fit_count(chart, other), wanted, (chart, other))

    def test_i1_beside(self):
        for one, two, three in itertools.product(KINDS[::3], KINDS[::4], KINDS[::2]):
            both = fit_count(one, three) * fit_count(two, three)
            self.assertEqual(fit_count(beside(one, two), three), both, (one, two, three))
            if len(rings(three)) == 1:
                both = fit_count(three, one) + fit_count(three, two)
                self.assertEqual(fit_count(three, beside(one, two)), both, (one, two, three))

    def test_i2_when(self):
        for chart, other in PAIRS + LARGE_PAIRS:
            lengths = [len(ring) for ring in rings(other)]
            missing = [ring for ring in rings(chart) if all(len(ring) % length for length in lengths)]
            self.assertEqual(fit_count(chart, other) > 0, not missing, (chart, other))
            if missing:
                self.assertEqual(raised_by(self, first_fit, chart, other), (NoFit, {"ring": missing[0]}))
            else:
                self.assertTrue(is_fit(chart, other, first_fit(chart, other)), (chart, other))

    def test_i2_rings_alone(self):
        for length in range(1, 11):
            ring = tuple(range(1, length)) + (0,)
            for other in FACT_CHARTS:
                staying = [place for place in range(len(other)) if step(other, length)[place] == place]
                self.assertEqual(fit_count(ring, other), len(staying), (ring, other))

    def test_i3_image_and_split(self):
        for chart, other in PAIRS[::5] + LARGE_PAIRS[::3]:
            for fit in some_fits(chart, other):
                image, split = fit_image(chart, other, fit), fit_split(chart, other, fit)
                self.assertTrue(is_kept(other, image) and are_kept(chart, split), (chart, other, fit))
                self.assertTrue(are_alike(told_in_own_numbers(other, image), chart_of(chart, split)), (chart, other))

    def test_i4_one_behind_the_other(self):
        for one, two, three in itertools.product(UP_TO_FOUR[::9], KINDS[::3], KINDS[::2]):
            for fit, further in itertools.product(some_fits(one, two), some_fits(two, three)):
                self.assertTrue(is_fit(one, three, tuple(further[y] for y in fit)), (one, two, three))

    def test_i4_rows_that_keep(self):
        for chart in UP_TO_FOUR:
            found = [fit for fit in all_fits(chart, chart) if len(set(fit)) == len(chart)]
            self.assertEqual(found, [nth_keeping(chart, k) for k in range(keep_count(chart))], chart)

    def test_i4_depths(self):
        for chart, other in PAIRS[::7] + LARGE_PAIRS[::3]:
            for fit in some_fits(chart, other):
                for place in range(len(chart)):
                    self.assertLessEqual(depth(other, fit[place]), depth(chart, place), (chart, other, fit))

    def test_i5_core(self):
        for chart in FACT_CHARTS:
            around = rings(chart)
            lengths = sorted({len(ring) for ring in around})
            least = [m for m in lengths if not any(m % d == 0 for d in lengths if d < m)]
            first = [min(tuple(sorted(ring)) for ring in around if len(ring) == m) for m in least]
            self.assertEqual(core(chart), tuple(sorted(sum(first, ()))), chart)
            self.assertTrue(can_lay(chart, core(chart)), chart)

    def test_i5_both_ways(self):
        for chart, other in PAIRS + LARGE_PAIRS:
            cores = told_in_own_numbers(chart, core(chart)), told_in_own_numbers(other, core(other))
            both = go_both_ways(chart, other)
            self.assertEqual(both, are_alike(*cores), (chart, other))
            self.assertEqual(both, fit_count(chart, other) > 0 and fit_count(other, chart) > 0, (chart, other))

    def test_i6_images_in_a_lot(self):
        for chart, other in PAIRS[::11]:
            fits = all_fits(chart, other)
            number = 1
            while nth_kept(other, number) is not None:
                lot = nth_kept(other, number)
                within = [fit for fit in fits if set(fit) <= set(lot)]
                inner = told_in_own_numbers(other, lot)
                found = [tuple(lot[y] for y in fit) for fit in all_fits(chart, inner)]
                self.assertEqual(found, within, (chart, other, lot))
                onto = [fit for fit in fits if set(fit) == set(lot)]
                self.assertEqual(onto_count(chart, inner), len(onto), (chart, other, lot))
                number += 1

    def test_i6_onto_the_image(self):
        for chart, other in PAIRS[::13] + LARGE_PAIRS[::7]:
            for fit in some_fits(chart, other):
                image = fit_image(chart, other, fit)
                inner = told_in_own_numbers(other, image)
                told = tuple(image.index(y) for y in fit)
                self.assertEqual(fit_image(chart, inner, told), tuple(range(len(image))), (chart, other, fit))
                self.assertGreater(onto_count(chart, inner), 0)

    def test_pieces_and_numbers(self):
        for chart, other in LARGE_PAIRS[::5]:
            for fit in some_fits(chart, other):
                self.assertEqual(nth_fit(chart, other, fit_number(chart, other, fit)), fit)
            self.assertEqual(len(pieces(chart)), len(rings(chart)))


if __name__ == "__main__":
    unittest.main()
