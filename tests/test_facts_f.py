"""The facts F1 to F7, over all charts of up to four places and some of up to ten."""

import itertools
import unittest

from everynext.charts import renamed, step
from everynext.codes import are_alike
from everynext.kept_lots import is_kept
from everynext.likenesses import (
    are_kept, chart_of, drawn_together, greatest_within, is_parts, joined_parts, kept_parts, kept_parts_count,
    least_together, lifted_parts, met_parts, parts_above, steps_apart, together_after,
)
from everynext.rings import height, on_rings, rings
from tests.helpers import (
    CHARTS_OF_FOUR, FACT_CHARTS, LARGE_CHARTS, SMALL_CHARTS, all_kept_parts, all_lots, all_parts, are_together,
    is_finer, mixed_chart,
)

UP_TO_FOUR = SMALL_CHARTS + CHARTS_OF_FOUR
SEVENS = [mixed_chart(7, seed) for seed in range(1, 6)] + [(1, 2, 3, 4, 5, 6, 0), (0, 1, 2, 3, 4, 5, 6), (6,) * 7]


def parts_by(labels):
    return tuple(sorted({tuple(x for x, held in enumerate(labels) if held == label) for label in labels}))


def some_parts(count):
    if count < 5:
        return all_parts(count)
    labels = [[0] * count, range(count), [x % 2 for x in range(count)], [x // 2 for x in range(count)]]
    return [parts_by(row) for row in labels + [[x // 4 for x in range(count)], [x in (0, 3) for x in range(count)]]]


def some_kept(chart):
    """All kept parts of small charts, and some of larger ones."""
    if len(chart) < 5:
        return list(all_kept_parts(chart))
    told = {together_after(chart, number) for number in (0, 1, 2, 10)}
    told |= {least_together(chart, ((x, x + 1),)) for x in range(len(chart) - 1)}
    told |= {greatest_within(chart, parts) for parts in some_parts(len(chart))}
    return sorted(told)[:8]


def plainly_joined(parts, others):
    """The finest parts of all that are coarser than both."""
    lots = [set(part) for part in parts]
    for other in others:
        met = [lot for lot in lots if lot & set(other)]
        lots = [lot for lot in lots if not lot & set(other)] + [set().union(*met)]
    return tuple(sorted(tuple(sorted(lot)) for lot in lots))


class FactsTest(unittest.TestCase):
    def test_f1_met_and_joined(self):
        for chart in FACT_CHARTS:
            for parts, others in itertools.product(some_kept(chart), repeat=2):
                self.assertTrue(are_kept(chart, met_parts(chart, parts, others)), (chart, parts, others))
                joined = joined_parts(chart, parts, others)
                self.assertTrue(are_kept(chart, joined), (chart, parts, others))
                self.assertEqual(joined, plainly_joined(parts, others), (chart, parts, others))

    def test_f2_steps_apart(self):
        for chart in FACT_CHARTS:
            for parts in some_parts(len(chart)):
                within = greatest_within(chart, parts)
                for x, y in itertools.combinations_with_replacement(range(len(chart)), 2):
                    found = steps_apart(chart, parts, x, y)
                    self.assertEqual(found is None, are_together(within, x, y), (chart, parts, x, y))
                    self.assertTrue(found is None or found < len(chart), (chart, parts, x, y))

    def test_f3_parts_of_parts(self):
        for chart in FACT_CHARTS:
            for parts in some_kept(chart)[:9]:
                inner = chart_of(chart, parts)
                uppers = all_parts(len(parts)) if len(parts) < 4 else some_parts(len(parts))[:12]
                for upper in uppers:
                    lifted = lifted_parts(chart, parts, upper)
                    self.assertTrue(is_finer(parts, lifted), (chart, parts, upper))
                    self.assertEqual(are_kept(chart, lifted), are_kept(inner, upper), (chart, parts, upper))
                    if are_kept(inner, upper):
                        self.assertEqual(chart_of(chart, lifted), chart_of(inner, upper), (chart, parts, upper))

    def test_f3_all_coarser_parts(self):
        for chart in UP_TO_FOUR:
            for parts in some_kept(chart):
                coarser = [others for others in all_parts(len(chart)) if is_finer(parts, others)]
                lifted = sorted(lifted_parts(chart, parts, upper) for upper in all_parts(len(parts)))
                self.assertEqual(lifted, coarser, (chart, parts))

    def test_f3_parts_above(self):
        for chart in FACT_CHARTS:
            for parts in some_kept(chart):
                inner = chart_of(chart, parts)
                alone = tuple((index,) for index in range(len(parts)))
                lifted = sorted(lifted_parts(chart, parts, upper) for upper in parts_above(inner, alone))
                self.assertEqual(parts_above(chart, parts), lifted, (chart, parts))

    def test_f4_one_ring(self):
        for length in range(1, 8):
            ring = tuple(range(1, length)) + (0,)
            divisors = [d for d in range(1, length + 1) if length % d == 0]
            wanted = sorted(parts_by([place % d for place in range(length)]) for d in divisors)
            self.assertEqual(kept_parts(ring), wanted)
            mixed = renamed(ring, tuple(range(length))[::-1])
            self.assertEqual(kept_parts_count(mixed), len(divisors))

    def test_f4_just_two(self):
        for chart in UP_TO_FOUR + SEVENS + [chart for chart in LARGE_CHARTS if len(chart) < 8]:
            if len(chart) > 2:
                is_prime_ring = len(rings(chart)[0]) == len(chart) and len(chart) in (3, 5, 7)
                self.assertEqual(kept_parts_count(chart) == 2, is_prime_ring, chart)

    def test_f4_each_its_own(self):
        for count in range(1, 8):
            found = kept_parts(tuple(range(count)))
            self.assertEqual(found, all_parts(count))
            self.assertEqual(len(found), [1, 2, 5, 15, 52, 203, 877][count - 1])

    def test_f5_together_after(self):
        for chart in FACT_CHARTS:
            for number in range(12):
                here, ahead = together_after(chart, number), together_after(chart, number + 1)
                self.assertTrue(are_kept(chart, here), (chart, number))
                self.assertTrue(is_finer(here, ahead), (chart, number))
                if number >= height(chart):
                    self.assertEqual(here, ahead, (chart, number))
            ringed = on_rings(chart)
            alone = tuple(ringed.index(chart[place]) for place in ringed)
            last = together_after(chart, height(chart))
            self.assertTrue(are_alike(chart_of(chart, last), alone), chart)
            # Each part has just one place on a ring, and these lead as the parts do.
            row = tuple([index for index, part in enumerate(last) if place in part][0] for place in ringed)
            self.assertEqual(renamed(alone, row), chart_of(chart, last), chart)

    def test_f6_drawn_together(self):
        for chart in FACT_CHARTS:
            lots = all_lots(len(chart))[1:]
            for lot in lots if len(lots) < 16 else lots[::len(lots) // 15]:
                wanted = is_kept(chart, lot) or len({chart[place] for place in lot}) == 1
                parts = drawn_together(chart, lot)
                self.assertTrue(is_parts(chart, parts) and lot in parts)
                self.assertEqual(are_kept(chart, parts), wanted, (chart, lot))

    def test_f7_kept_lots_of_parts(self):
        for chart in FACT_CHARTS:
            for parts in some_kept(chart)[:6]:
                inner = chart_of(chart, parts)
                lots = all_lots(len(parts))
                for lot in lots if len(lots) < 17 else lots[::len(lots) // 16]:
                    below = tuple(sorted(place for index in lot for place in parts[index]))
                    self.assertEqual(is_kept(inner, lot), is_kept(chart, below), (chart, parts, lot))

    def test_kept_parts_are_kept_by_far_steps(self):
        for chart in UP_TO_FOUR:
            for parts in kept_parts(chart):
                self.assertTrue(are_kept(step(chart, 2), parts) and are_kept(step(chart, 10 ** 30), parts))


if __name__ == "__main__":
    unittest.main()
