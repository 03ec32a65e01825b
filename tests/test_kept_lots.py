"""Points [20] and [21], and the sentence about NotKept: kept lots."""

import math
import unittest

from everynext.errors import InvalidChart, InvalidCount, InvalidLot, NotKept
from everynext.kept_lots import (
    coming_to, is_kept, kept_above, kept_below, kept_counts, kept_number, kept_over, kept_rows, kept_within, nth_kept,
    told_by,
)
from tests.helpers import (
    BUSHES, CHARTS, CHARTS_OF_FOUR, CHARTS_OF_TEN, EACH_ITS_OWN, EAR, FACT_CHARTS, LENGTHS_THAT_DIVIDE, LONG_WAY,
    LONG_WAY_TO_TWO, NINETY_DIGITS, NOT_LOTS, ONE, ONE_RING, PERIOD_THIRTY, STAR, all_kept_lots, all_lots,
    is_plainly_kept, raised_by, told_in_time, walked,
)

# Charts whose lots are all looked at.
LOOKED_AT = [chart for chart in FACT_CHARTS if len(chart) < 8]
ALL_PLACES = EACH_ITS_OWN
NEED_KEPT = (kept_number, told_by, kept_above, kept_below)


def lot_order(lot):
    return len(lot), lot


def are_comers(chart, place, lot):
    return any(walked(chart, place, number) in lot for number in range(len(chart)))


def is_within(lot, other_lot):
    return set(lot) <= set(other_lot)


def plainly_above(chart, lot):
    greater = [other for other in all_kept_lots(chart) if is_within(lot, other) and other != lot]
    return [other for other in greater if not any(is_within(less, other) for less in greater if less != other)]


def plainly_below(chart, lot):
    lesser = [other for other in all_kept_lots(chart) if is_within(other, lot) and other != lot]
    return [other for other in lesser if not any(is_within(other, more) for more in lesser if more != other)]


class KeptTest(unittest.TestCase):
    def test_is_kept(self):
        for chart in LOOKED_AT:
            for lot in all_lots(len(chart)):
                self.assertIs(is_kept(chart, lot), is_plainly_kept(chart, lot), (chart, lot))

    def test_kept_over_and_within(self):
        for chart in LOOKED_AT:
            kept = all_kept_lots(chart)
            for lot in all_lots(len(chart)):
                over = [other for other in kept if is_within(lot, other)]
                self.assertEqual(kept_over(chart, lot), over[0], (chart, lot))
                self.assertTrue(all(is_within(over[0], other) for other in over))
                within = [other for other in kept if is_within(other, lot)]
                self.assertEqual(kept_within(chart, lot), within[-1], (chart, lot))
                self.assertTrue(all(is_within(other, within[-1]) for other in within))

    def test_coming_to(self):
        for chart in LOOKED_AT:
            for lot in all_lots(len(chart)):
                wanted = tuple(place for place in range(len(chart)) if are_comers(chart, place, lot))
                self.assertEqual(coming_to(chart, lot), wanted, (chart, lot))

    def test_edges(self):
        for chart in CHARTS_OF_TEN:
            self.assertEqual([is_kept(chart, ()), is_kept(chart, ALL_PLACES)], [True, True])
            for function in (kept_over, kept_within, coming_to):
                self.assertEqual([function(chart, ()), function(chart, ALL_PLACES)], [(), ALL_PLACES], chart)
        self.assertEqual([is_kept(STAR, (7,)), is_kept(STAR, (0,)), is_kept(ONE, (0,))], [True, False, True])
        self.assertEqual([kept_over(ONE_RING, (3,)), kept_within(ONE_RING, ALL_PLACES[1:])], [ALL_PLACES, ()])
        self.assertEqual([kept_over(LONG_WAY, (4,)), kept_within(LONG_WAY, (0, 1, 3))], [ALL_PLACES[:5], (0, 1)])
        self.assertEqual([coming_to(LONG_WAY, (4,)), coming_to(ONE_RING, (4,))], [ALL_PLACES[4:], ALL_PLACES])
        self.assertEqual([kept_over(BUSHES, (6, 9)), kept_within(BUSHES, (0, 7, 9))], [(3, 4, 5, 6, 7, 8, 9), (7,)])
        self.assertEqual([coming_to(BUSHES, (7,)), coming_to(BUSHES, (1, 6))], [(7, 8, 9), (1, 6)])

    def test_errors(self):
        for function in (is_kept, kept_over, kept_within, coming_to) + NEED_KEPT:
            for lot in NOT_LOTS:
                self.assertEqual(raised_by(self, function, EAR, lot)[0], InvalidLot, (function, lot))
            self.assertEqual(raised_by(self, function, (4, 0, 0, 0), (4,))[0], InvalidChart)
            self.assertEqual(raised_by(self, function, [0], ())[0], InvalidChart)


class NumbersTest(unittest.TestCase):
    def test_lots_in_their_sequence(self):
        for chart in CHARTS + CHARTS_OF_FOUR:
            kept = all_kept_lots(chart)
            counts = [len([lot for lot in kept if len(lot) == size]) for size in range(len(chart) + 1)]
            self.assertEqual(kept_counts(chart), counts, chart)
            numbers = range(len(kept)) if len(kept) < 40 else range(0, len(kept), len(kept) // 5)
            for number in numbers:
                self.assertEqual(nth_kept(chart, number), kept[number], (chart, number))
                self.assertEqual(kept_number(chart, kept[number]), number, (chart, number))
            self.assertEqual(nth_kept(chart, len(kept) - 1), tuple(range(len(chart))))
            for number in (len(kept), len(kept) + 1, NINETY_DIGITS):
                self.assertIsNone(nth_kept(chart, number), chart)

    def test_edges(self):
        self.assertEqual([kept_counts(ONE), kept_counts((1, 0))], [[1, 1], [1, 0, 1]])
        self.assertEqual(kept_counts(EACH_ITS_OWN), [math.comb(10, size) for size in range(11)])
        self.assertEqual([kept_counts(ONE_RING), kept_counts(LONG_WAY)], [[1] + [0] * 9 + [1], [1] * 11])
        self.assertEqual(kept_counts(STAR), [1] + [math.comb(9, size) for size in range(10)])
        self.assertEqual([nth_kept(EACH_ITS_OWN, 0), nth_kept(EACH_ITS_OWN, 1023)], [(), ALL_PLACES])
        self.assertEqual([nth_kept(EACH_ITS_OWN, 12), nth_kept(EACH_ITS_OWN, 1024)], [(0, 2), None])
        self.assertEqual([kept_number(EACH_ITS_OWN, (8, 9)), kept_number(EACH_ITS_OWN, ())], [55, 0])
        self.assertEqual([nth_kept(PERIOD_THIRTY, 1), nth_kept(PERIOD_THIRTY, 3)], [(0, 1), (0, 1, 2, 3, 4)])
        for number in (-1, True, None, "0"):
            self.assertEqual(raised_by(self, nth_kept, EAR, number)[0], InvalidCount)

    def test_told_by(self):
        for chart in LOOKED_AT:
            first = {}
            for lot in all_lots(len(chart)):
                first.setdefault(kept_over(chart, lot), lot)
            for kept, lot in first.items():
                self.assertEqual(told_by(chart, kept), lot, (chart, kept))

    def test_told_by_edges(self):
        self.assertEqual([told_by(ONE, ()), told_by(ONE, (0,)), told_by(ONE_RING, ALL_PLACES)], [(), (0,), (0,)])
        self.assertEqual([told_by(LONG_WAY, ALL_PLACES), told_by(LONG_WAY, (0, 1, 2))], [(9,), (2,)])
        self.assertEqual([told_by(STAR, (7,)), told_by(STAR, (2, 7, 8))], [(7,), (2, 8)])
        self.assertEqual(told_by(EACH_ITS_OWN, (2, 5)), (2, 5))
        self.assertEqual([told_by(LONG_WAY_TO_TWO, (8, 9)), told_by(BUSHES, ALL_PLACES)], [(8,), (0, 1, 2, 6, 9)])
        self.assertEqual(told_by(BUSHES, (3, 4, 5, 6, 7, 8)), (6, 8))
        self.assertEqual(told_by(LENGTHS_THAT_DIVIDE, ALL_PLACES), (0, 1, 3, 9))


class AboveAndBelowTest(unittest.TestCase):
    def test_all_kept_lots(self):
        for chart in LOOKED_AT:
            for lot in all_kept_lots(chart):
                self.assertEqual(kept_above(chart, lot), plainly_above(chart, lot), (chart, lot))
                self.assertEqual(kept_below(chart, lot), plainly_below(chart, lot), (chart, lot))

    def test_edges(self):
        self.assertEqual([kept_above(ONE, ()), kept_above(ONE, (0,)), kept_below(ONE, ())], [[(0,)], [], []])
        self.assertEqual([kept_above(ONE_RING, ()), kept_below(ONE_RING, ALL_PLACES)], [[ALL_PLACES], [()]])
        self.assertEqual(kept_above(EACH_ITS_OWN, ()), [(place,) for place in range(10)])
        self.assertEqual(kept_below(EACH_ITS_OWN, (1, 4, 9)), [(1, 4), (1, 9), (4, 9)])
        # In lot order the lots with fewer places come first, although their first place is greater.
        self.assertEqual(kept_above(PERIOD_THIRTY, ()), [(0, 1), (2, 3, 4), (5, 6, 7, 8, 9)])
        self.assertEqual(kept_above((1, 0, 2), ()), [(2,), (0, 1)])
        self.assertEqual(kept_below((1, 0, 2), (0, 1, 2)), [(2,), (0, 1)])
        self.assertEqual(kept_above(BUSHES, (7,)), [(7, 8), (3, 4, 5, 7)])
        without_one = [ALL_PLACES[:k] + ALL_PLACES[k + 1:] for k in (0, 1, 2, 6, 9)]
        self.assertEqual(kept_below(BUSHES, ALL_PLACES), sorted(without_one))

    def test_kept_rows(self):
        for chart in LOOKED_AT:
            kept = all_kept_lots(chart)
            if len(kept) > 40:
                continue
            for lot in kept:
                counts = {lot: 1}
                for other in kept:
                    if other != lot:
                        counts[other] = sum(counts.get(less, 0) for less in plainly_below(chart, other))
                    self.assertEqual(kept_rows(chart, lot, other), counts[other], (chart, lot, other))

    def test_kept_rows_edges(self):
        self.assertEqual(told_in_time(self, kept_rows, EACH_ITS_OWN, (), ALL_PLACES), math.factorial(10))
        self.assertEqual(kept_rows(EACH_ITS_OWN, (3,), (1, 3, 5, 8)), 6)
        self.assertEqual([kept_rows(ONE, (), (0,)), kept_rows(ONE, (0,), ()), kept_rows(ONE, (), ())], [1, 0, 1])
        self.assertEqual([kept_rows(ONE_RING, (), ALL_PLACES), kept_rows(LONG_WAY, (), ALL_PLACES)], [1, 1])
        self.assertEqual([kept_rows(STAR, (), ALL_PLACES), kept_rows(STAR, (7,), (1, 2, 7))], [math.factorial(9), 2])
        self.assertEqual(kept_rows(PERIOD_THIRTY, (), ALL_PLACES), 6)
        self.assertEqual(kept_rows(PERIOD_THIRTY, (0, 1), (2, 3, 4)), 0)
        self.assertEqual(kept_rows(EAR, (1, 2), (1, 2)), 1)


class NotKeptTest(unittest.TestCase):
    def test_lots_that_are_not_kept(self):
        for chart in CHARTS_OF_FOUR[::3] + [BUSHES, LONG_WAY, ONE_RING, STAR]:
            for lot in all_lots(len(chart))[::1 if len(chart) == 4 else 37]:
                failing = [place for place in lot if chart[place] not in lot]
                if failing:
                    wanted = NotKept, {"place": failing[0]}
                    for function in NEED_KEPT:
                        self.assertEqual(raised_by(self, function, chart, lot), wanted, (chart, lot))
                    self.assertEqual(raised_by(self, kept_rows, chart, lot, ()), wanted, (chart, lot))
                    self.assertEqual(raised_by(self, kept_rows, chart, (), lot), wanted, (chart, lot))

    def test_the_first_lot_is_looked_at_first(self):
        self.assertEqual(raised_by(self, kept_rows, EAR, (0, 1), (3,)), (NotKept, {"place": 1}))
        self.assertEqual(raised_by(self, kept_rows, EAR, (1, 2), (3,)), (NotKept, {"place": 3}))
        self.assertEqual(raised_by(self, kept_rows, EAR, (3,), (0, 1)), (NotKept, {"place": 3}))
        # The errors of all parameters stand ahead.
        self.assertEqual(raised_by(self, kept_rows, EAR, (0, 1), (1, 0))[0], InvalidLot)
        self.assertEqual(raised_by(self, kept_rows, EAR, (0, 0), (1, 0))[0], InvalidLot)
        self.assertEqual(raised_by(self, kept_rows, (0, 9), (0, 0), (1, 0))[0], InvalidChart)


if __name__ == "__main__":
    unittest.main()
