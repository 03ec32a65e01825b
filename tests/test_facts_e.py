"""The facts E1 to E5, over all charts of up to four places and some of up to ten."""

import math
import unittest

from everynext.charts import step, way
from everynext.kept_lots import (
    coming_to, is_kept, kept_above, kept_below, kept_counts, kept_over, kept_rows, kept_within, nth_kept, told_by,
)
from everynext.rings import children, on_rings, ring_of, rings
from tests.helpers import CHARTS_OF_FOUR, FACT_CHARTS, SMALL_CHARTS, all_lots


def some_lots(count):
    lots = all_lots(count)
    return lots if count < 5 else lots[::len(lots) // 24]


def some_kept(chart):
    """All kept lots of small charts, and some of larger ones."""
    count = sum(kept_counts(chart))
    return [nth_kept(chart, number) for number in range(0, count, count // 24 + 1)] + [tuple(range(len(chart)))]


def ways_to_keep(chart, place):
    return math.prod(1 + ways_to_keep(chart, child) for child in children(chart, place))


def leaders(chart, lot):
    """What the lot is told by: its places to which none of it leads, and its rings to which no other of it comes."""
    alone = [place for place in lot if not any(chart[other] == place for other in lot)]
    bare = [
        ring for ring in rings(chart)
        if ring[0] in lot and not any(ring_of(chart, place) == ring and place not in ring for place in lot)
    ]
    return alone, bare


class FactsTest(unittest.TestCase):
    def test_e1_together_and_in_common(self):
        for chart in FACT_CHARTS:
            kept = some_kept(chart)
            for one in kept:
                for two in kept[::3]:
                    self.assertTrue(is_kept(chart, tuple(sorted({*one, *two}))), (chart, one, two))
                    self.assertTrue(is_kept(chart, tuple(sorted(set(one) & set(two)))), (chart, one, two))

    def test_e1_over_within_and_coming(self):
        for chart in FACT_CHARTS:
            places = range(len(chart))
            for lot in some_lots(len(chart)):
                reached = sorted({passed for place in lot for passed in way(chart, place)})
                self.assertEqual(kept_over(chart, lot), tuple(reached), (chart, lot))
                others = tuple(place for place in places if place not in lot)
                losing = coming_to(chart, others)
                self.assertEqual(kept_within(chart, lot), tuple(place for place in places if place not in losing))
                self.assertEqual(is_kept(chart, lot), losing == others, (chart, lot))

    def test_e2_how_many(self):
        for chart in FACT_CHARTS:
            wanted = math.prod(
                1 + math.prod(ways_to_keep(chart, place) for place in ring) for ring in rings(chart)
            )
            self.assertEqual(sum(kept_counts(chart)), wanted, chart)

    def test_e3_told_by(self):
        for chart in FACT_CHARTS:
            for kept in some_kept(chart):
                alone, bare = leaders(chart, kept)
                wanted = sorted(alone + [min(ring) for ring in bare])
                self.assertEqual(told_by(chart, kept), tuple(wanted), (chart, kept))

    def test_e3_lots_over_which_the_lot_is(self):
        for chart in SMALL_CHARTS + CHARTS_OF_FOUR:
            for kept in some_kept(chart):
                alone, bare = leaders(chart, kept)
                for lot in all_lots(len(chart)):
                    wanted = set(alone) <= set(lot) <= set(kept) and all(set(ring) & set(lot) for ring in bare)
                    self.assertEqual(kept_over(chart, lot) == kept, wanted, (chart, kept, lot))

    def test_e4_one_place_or_one_ring_more(self):
        for chart in FACT_CHARTS:
            rounds = [tuple(sorted(ring)) for ring in rings(chart)]
            for kept in some_kept(chart):
                for above in kept_above(chart, kept):
                    more = tuple(sorted(set(above) - set(kept)))
                    single = len(more) == 1 and more[0] not in on_rings(chart)
                    self.assertTrue(single or more in rounds, (chart, kept, above))
                    self.assertIn(kept, kept_below(chart, above), (chart, kept, above))
                    self.assertEqual(kept_rows(chart, kept, above), 1, (chart, kept, above))

    def test_e4_length_of_rows(self):
        for chart in FACT_CHARTS:
            for last in (0, -1):
                row = [()]
                while kept_above(chart, row[-1]):
                    row.append(kept_above(chart, row[-1])[last])
                self.assertEqual(row[-1], tuple(range(len(chart))), chart)
                self.assertEqual(len(row), len(rings(chart)) + len(chart) - len(on_rings(chart)) + 1, chart)

    def test_e5_far_steps(self):
        for chart in FACT_CHARTS:
            for kept in some_kept(chart):
                for number in (0, 1, 2, 3, 6, 10 ** 40):
                    self.assertTrue(is_kept(step(chart, number), kept), (chart, kept, number))


if __name__ == "__main__":
    unittest.main()
