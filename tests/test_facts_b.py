"""The facts B1 to B6, over all charts of up to four places and some of up to ten."""

import itertools
import math
import unittest

from everynext.charts import behind, renamed, step
from everynext.codes import (
    alike_count, alike_row, are_alike, chart_by_code, chart_code, is_alike_row, is_code, kind_count, kinds,
    nth_alike_row, tree_code,
)
from everynext.errors import NotAlike
from everynext.keeping import (
    is_keeping, keep_count, keep_shares, keeping_number, like_lots, lot_count, moved, nth_keeping, stay_count,
)
from everynext.rings import depth, ring_of
from tests.helpers import CHARTS_OF_FOUR, FACT_CHARTS, LARGE_CHARTS, SMALL_CHARTS, all_lots, some_rows

LARGEST_TRIED = 24


def some_keeping(chart):
    """All rows that keep the chart, or the first and last ones if there are too many."""
    count = keep_count(chart)
    numbers = list(range(min(count, LARGEST_TRIED))) + list(range(max(LARGEST_TRIED, count - 3), count))
    return [nth_keeping(chart, number) for number in numbers]


def some_lots(count):
    lots = all_lots(count)
    return lots if count < 5 else lots[::len(lots) // 9]


class FactsTest(unittest.TestCase):
    def test_b1_alike_exactly_with_one_code(self):
        charts = SMALL_CHARTS + CHARTS_OF_FOUR
        codes = [chart_code(chart) for chart in charts]
        firsts = [min(renamed(chart, row) for row in itertools.permutations(range(len(chart)))) for chart in charts]
        for (first, code), (other, other_code) in itertools.product(list(zip(firsts, codes)), repeat=2):
            self.assertEqual(first == other, code == other_code, (first, other))
        for chart, other in itertools.product(charts[::5], charts[::3]):
            alike = firsts[charts.index(chart)] == firsts[charts.index(other)]
            self.assertEqual(are_alike(chart, other), alike, (chart, other))

    def test_b1_codes_there_and_back(self):
        for chart in FACT_CHARTS:
            code = chart_code(chart)
            self.assertTrue(is_code(code), chart)
            self.assertEqual(chart_code(chart_by_code(code)), code, chart)
            self.assertTrue(are_alike(chart_by_code(code), chart), chart)
        for count in range(1, 7):
            for code in kinds(count):
                self.assertEqual(chart_code(chart_by_code(code)), code)

    def test_b1_renamed(self):
        for chart in FACT_CHARTS:
            for row in some_rows(len(chart)):
                self.assertEqual(chart_code(renamed(chart, row)), chart_code(chart), (chart, row))

    def test_b2_alike_passes_on(self):
        for chart in FACT_CHARTS:
            for row, other_row in itertools.product(some_rows(len(chart))[:4], repeat=2):
                other = renamed(chart, row)
                third = renamed(other, other_row)
                self.assertTrue(are_alike(chart, other) and are_alike(other, third) and are_alike(chart, third))

    def test_b2_counts(self):
        for chart in FACT_CHARTS:
            count = keep_count(chart)
            self.assertEqual(alike_count(chart) * count, math.factorial(len(chart)), chart)
            other = renamed(chart, some_rows(len(chart))[-1])
            rows = [nth_alike_row(chart, other, number) for number in range(min(count, 9))]
            rows.append(nth_alike_row(chart, other, count - 1))
            self.assertTrue(all(is_alike_row(chart, other, row) for row in rows), chart)
            self.assertIsNone(nth_alike_row(chart, other, count), chart)

    def test_b3_shares(self):
        for chart in FACT_CHARTS:
            self.assertEqual(keep_count(chart), math.prod(keep_shares(chart)), chart)

    def test_b3_closed(self):
        for chart in FACT_CHARTS:
            rows = some_keeping(chart)
            self.assertEqual(rows[0], tuple(range(len(chart))), chart)
            for row in rows[:9]:
                undone = tuple(row.index(place) for place in range(len(chart)))
                self.assertTrue(is_keeping(chart, undone), (chart, row))
                for other in rows[-5:]:
                    self.assertTrue(is_keeping(chart, behind(row, other)), (chart, row, other))
                    self.assertIn(keeping_number(chart, behind(row, other)), range(keep_count(chart)))

    def test_b3_far_steps(self):
        for chart in FACT_CHARTS:
            for row in some_keeping(chart)[:9]:
                for number in (0, 1, 2, 3, 7, 10 ** 50):
                    self.assertTrue(is_keeping(step(chart, number), row), (chart, row, number))

    def test_b4_like_places(self):
        for chart in FACT_CHARTS:
            lots = like_lots(chart)
            for lot in lots:
                self.assertEqual(len({depth(chart, place) for place in lot}), 1, (chart, lot))
                self.assertEqual(len({repr(tree_code(chart, place)) for place in lot}), 1, (chart, lot))
                self.assertEqual(len({len(ring_of(chart, place)) for place in lot}), 1, (chart, lot))
                following = {chart[place] for place in lot}
                self.assertTrue(any(following <= set(other) for other in lots), (chart, lot))

    def test_b4_numbers_of_places(self):
        for chart in FACT_CHARTS:
            for lot in like_lots(chart):
                for place in lot:
                    self.assertEqual(len(lot) * stay_count(chart, (place,)), keep_count(chart), (chart, place))

    def test_b4_numbers_of_lots(self):
        for chart in FACT_CHARTS:
            rows = some_keeping(chart)
            if len(rows) == keep_count(chart):
                for lot in some_lots(len(chart)):
                    staying = len([row for row in rows if moved(chart, row, lot) == lot])
                    self.assertEqual(lot_count(chart, lot) * staying, len(rows), (chart, lot))

    def test_b5_numbers_of_kinds(self):
        found = [kind_count(count) for count in range(1, 11)]
        self.assertEqual(found, [1, 3, 7, 19, 47, 130, 343, 951, 2615, 7318])
        for count in range(1, 7):
            self.assertEqual(len(kinds(count)), found[count - 1])
            total = sum(alike_count(chart_by_code(code)) for code in kinds(count))
            self.assertEqual(total, count ** count)

    def test_b6_alike_far_steps(self):
        for chart in FACT_CHARTS:
            for row in some_rows(len(chart))[:5]:
                other = renamed(chart, row)
                found = alike_row(chart, other)
                for number in (0, 1, 2, 3, 5, 10 ** 50):
                    one, two = step(chart, number), step(other, number)
                    self.assertTrue(is_alike_row(one, two, found), (chart, row, number))
                    self.assertTrue(is_alike_row(one, two, row), (chart, row, number))

    def test_unlike_charts_have_no_row(self):
        for chart, other in itertools.combinations(LARGE_CHARTS, 2):
            if chart_code(chart) != chart_code(other):
                with self.assertRaises(NotAlike):
                    alike_row(chart, other)


if __name__ == "__main__":
    unittest.main()
