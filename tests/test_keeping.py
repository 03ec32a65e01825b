"""Points [14] and [15]: rows that keep a chart, and like places."""

import itertools
import math
import unittest

from everynext.errors import InvalidChart, InvalidCount, InvalidLot, InvalidPlace, InvalidRow, NotKeeping
from everynext.keeping import (
    is_keeping, keep_count, keep_shares, keeping_number, like_lots, lot_count, moved, nth_keeping, own_lot, row_leading,
    stay_count,
)
from everynext.rings import children, pieces, ring_of
from tests.helpers import (
    ALIKE_RINGS_ALIKE_TREES, BUSHES, CHARTS_OF_TEN, EACH_ITS_OWN, EAR, FACT_CHARTS, LENGTHS_THAT_DIVIDE, LONG_WAY,
    LONG_WAY_TO_TWO, NINETY_DIGITS, NOT_CHARTS, NOT_LOTS, NOT_ROWS, ONE, ONE_RING, PERIOD_THIRTY, STAR,
    THREE_ALIKE_RINGS, all_lots, deep, leads, plain_chart_code, plain_piece_code, plain_ring_of, plain_rows,
    plain_tree_code, raised_by, told_in_time,
)

# Charts whose rows can all be looked at.
LOOKED_AT = [chart for chart in FACT_CHARTS if len(chart) < 7] + [
    (1, 0, 3, 2, 5, 4), (5,) * 6, (1, 2, 0, 4, 5, 3), (0, 0, 0, 3, 3, 3), (0, 0, 0, 1, 1, 2, 2),
]


def keeping_rows(chart):
    return plain_rows(chart, chart)


def orders(codes):
    """The product, over the unlike codes, of the factorials of how often they come."""
    return math.prod(math.factorial(codes.count(code)) for k, code in enumerate(codes) if code not in codes[:k])


class KeepingTest(unittest.TestCase):
    def test_rows_in_their_sequence(self):
        for chart in LOOKED_AT:
            rows = keeping_rows(chart)
            self.assertEqual(keep_count(chart), len(rows), chart)
            self.assertEqual([nth_keeping(chart, number) for number in range(len(rows))], list(rows), chart)
            self.assertEqual([keeping_number(chart, row) for row in rows], list(range(len(rows))), chart)
            for number in (len(rows), len(rows) + 1, NINETY_DIGITS):
                self.assertIsNone(nth_keeping(chart, number), chart)

    def test_is_keeping(self):
        for chart in LOOKED_AT:
            for row in itertools.permutations(range(len(chart))):
                self.assertIs(is_keeping(chart, row), row in keeping_rows(chart), (chart, row))

    def test_is_keeping_of_other_values(self):
        for value in NOT_ROWS + NOT_CHARTS + [EAR, (3, 3, 3, 3)]:
            for chart in (EAR, (0, 1, 2, 3), (0, 0, 0, 0)):
                self.assertIs(is_keeping(chart, value), False, value)
        # A chart that goes along, but is no row.
        self.assertIs(is_keeping((0, 0), (0, 0)), False)

    def test_keep_count_edges(self):
        self.assertEqual([keep_count(ONE), keep_count(ONE_RING), keep_count(LONG_WAY)], [1, 10, 1])
        self.assertEqual([keep_count(EACH_ITS_OWN), keep_count(STAR)], [math.factorial(10), math.factorial(9)])
        self.assertEqual([keep_count(PERIOD_THIRTY), keep_count(BUSHES)], [30, 6])
        self.assertEqual([keep_count(THREE_ALIKE_RINGS), keep_count(ALIKE_RINGS_ALIKE_TREES)], [18, 16])

    def test_keep_shares(self):
        for chart in FACT_CHARTS:
            codes = [plain_piece_code(chart, lot[0]) for lot in pieces(chart)]
            turns = 1
            for lot in pieces(chart):
                ring = [plain_tree_code(chart, place) for place in plain_ring_of(chart, lot[0])]
                found = [ring[begin:] + ring[:begin] for begin in range(len(ring))]
                turns *= found.count(min(found))
            under = [[plain_tree_code(chart, x) for x in children(chart, y)] for y in range(len(chart))]
            wanted = orders(codes), turns, math.prod(orders(trees) for trees in under)
            self.assertEqual(told_in_time(self, keep_shares, chart), wanted, chart)

    def test_keep_shares_edges(self):
        self.assertEqual([keep_shares(ONE), keep_shares(ONE_RING)], [(1, 1, 1), (1, 10, 1)])
        self.assertEqual([keep_shares(EACH_ITS_OWN), keep_shares(STAR)], [(3628800, 1, 1), (1, 1, 362880)])
        self.assertEqual(keep_shares((1, 0, 3, 2, 5, 4, 7, 6, 9, 8)), (120, 32, 1))
        self.assertEqual(keep_shares(ALIKE_RINGS_ALIKE_TREES), (2, 8, 1))
        self.assertEqual(keep_shares((0, 0, 0, 1, 1, 2, 2, 0, 0, 9)), (1, 1, 16))

    def test_ten_places(self):
        for chart in CHARTS_OF_TEN:
            count = told_in_time(self, keep_count, chart)
            numbers = sorted({0, 1, count // 3, count // 2, count - 1} & set(range(count)))
            rows = [told_in_time(self, nth_keeping, chart, number) for number in numbers]
            self.assertEqual(rows[0], EACH_ITS_OWN)
            self.assertEqual(rows, sorted(rows), chart)
            self.assertTrue(all(leads(chart, chart, row) for row in rows), chart)
            self.assertEqual([told_in_time(self, keeping_number, chart, row) for row in rows], numbers, chart)
            self.assertIsNone(nth_keeping(chart, count), chart)
            self.assertIsNone(nth_keeping(chart, NINETY_DIGITS), chart)

    def test_indexes_of_ten_places(self):
        # Each row of these places keeps the chart, so its index is told by its inversions.
        row = (3, 1, 4, 0, 5, 9, 2, 6, 8, 7)
        wanted = sum(len([y for y in row[x:] if y < row[x]]) * math.factorial(9 - x) for x in range(10))
        self.assertEqual(keeping_number(EACH_ITS_OWN, row), wanted)
        self.assertEqual(nth_keeping(EACH_ITS_OWN, wanted), row)
        self.assertEqual([nth_keeping(ONE_RING, k)[0] for k in range(10)], list(range(10)))
        self.assertEqual(nth_keeping(STAR, 362879), (9, 8, 6, 5, 4, 3, 2, 7, 1, 0))

    def test_not_keeping(self):
        for chart in LOOKED_AT:
            for row in itertools.permutations(range(len(chart))):
                failing = [x for x in range(len(chart)) if row[chart[x]] != chart[row[x]]]
                if failing:
                    wanted = NotKeeping, {"place": failing[0]}
                    self.assertEqual(raised_by(self, keeping_number, chart, row), wanted, (chart, row))
                    self.assertEqual(raised_by(self, moved, chart, row, ()), wanted, (chart, row))

    def test_not_keeping_edges(self):
        row = EACH_ITS_OWN[:8] + (9, 8)
        self.assertEqual(raised_by(self, keeping_number, LONG_WAY, row), (NotKeeping, {"place": 8}))
        self.assertEqual(raised_by(self, keeping_number, ONE_RING, (1, 0) + EACH_ITS_OWN[2:])[1], {"place": 0})
        self.assertEqual(raised_by(self, keeping_number, (0, 0), (1, 0))[1], {"place": 0})
        self.assertEqual(raised_by(self, keeping_number, (0, 1, 1), (0, 2, 1))[1], {"place": 1})


class LikeTest(unittest.TestCase):
    def test_like_lots(self):
        for chart in LOOKED_AT:
            lots = {tuple(sorted({row[place] for row in keeping_rows(chart)})) for place in range(len(chart))}
            self.assertEqual(like_lots(chart), sorted(lots), chart)
            self.assertEqual(own_lot(chart), tuple(sorted(lot[0] for lot in lots if len(lot) == 1)), chart)

    def test_like_lots_edges(self):
        self.assertEqual([like_lots(ONE), own_lot(ONE)], [[(0,)], (0,)])
        self.assertEqual([like_lots(EACH_ITS_OWN), own_lot(EACH_ITS_OWN)], [[EACH_ITS_OWN], ()])
        self.assertEqual([like_lots(ONE_RING), own_lot(ONE_RING)], [[EACH_ITS_OWN], ()])
        self.assertEqual([like_lots(STAR), own_lot(STAR)], [[(0, 1, 2, 3, 4, 5, 6, 8, 9), (7,)], (7,)])
        self.assertEqual([like_lots(LONG_WAY), own_lot(LONG_WAY)], [[(place,) for place in range(10)], EACH_ITS_OWN])
        self.assertEqual(like_lots(ALIKE_RINGS_ALIKE_TREES), [(0, 1, 4, 5), (2, 3, 6, 7), (8, 9)])
        self.assertEqual(like_lots(THREE_ALIKE_RINGS), [(0, 1, 2, 3, 4, 5), (6,), (7,), (8,), (9,)])
        self.assertEqual(like_lots(LENGTHS_THAT_DIVIDE), [(0,), (1, 2), (3, 4, 5, 6), (7,), (8,), (9,)])

    def test_row_leading(self):
        for chart in LOOKED_AT:
            for place, other_place in itertools.product(range(len(chart)), repeat=2):
                rows = [row for row in keeping_rows(chart) if row[place] == other_place]
                wanted = rows[0] if rows else None
                self.assertEqual(row_leading(chart, place, other_place), wanted, (chart, place, other_place))

    def test_row_leading_edges(self):
        self.assertEqual([row_leading(ONE, 0, 0), row_leading(STAR, 7, 0), row_leading(STAR, 0, 7)], [(0,), None, None])
        self.assertEqual(told_in_time(self, row_leading, EACH_ITS_OWN, 9, 0), (1, 2, 3, 4, 5, 6, 7, 8, 9, 0))
        self.assertEqual(told_in_time(self, row_leading, ONE_RING, 4, 2), (8, 9, 0, 1, 2, 3, 4, 5, 6, 7))
        self.assertEqual(row_leading(STAR, 9, 1), (0, 2, 3, 4, 5, 6, 8, 7, 9, 1))
        self.assertEqual(row_leading(ALIKE_RINGS_ALIKE_TREES, 6, 2), (4, 5, 6, 7, 0, 1, 2, 3, 8, 9))
        self.assertEqual(row_leading(LONG_WAY_TO_TWO, 8, 9), None)
        self.assertEqual(row_leading(LONG_WAY_TO_TWO, 9, 9), EACH_ITS_OWN)

    def test_stay_count(self):
        for chart in LOOKED_AT:
            for lot in all_lots(len(chart)):
                wanted = len([row for row in keeping_rows(chart) if all(row[place] == place for place in lot)])
                self.assertEqual(stay_count(chart, lot), wanted, (chart, lot))

    def test_stay_count_edges(self):
        self.assertEqual([stay_count(EACH_ITS_OWN, ()), stay_count(EACH_ITS_OWN, (3, 8))], [3628800, 40320])
        self.assertEqual([stay_count(EACH_ITS_OWN, EACH_ITS_OWN), stay_count(ONE_RING, (9,))], [1, 1])
        self.assertEqual([stay_count(STAR, (7,)), stay_count(STAR, (0, 7))], [362880, 40320])
        self.assertEqual(stay_count(ONE_RING, ()), 10)

    def test_lot_count(self):
        for chart in LOOKED_AT:
            for lot in all_lots(len(chart)):
                wanted = len({tuple(sorted(row[place] for place in lot)) for row in keeping_rows(chart)})
                self.assertEqual(lot_count(chart, lot), wanted, (chart, lot))

    def test_lot_count_edges(self):
        self.assertEqual([lot_count(EACH_ITS_OWN, ()), lot_count(EACH_ITS_OWN, (0, 4, 8))], [1, 120])
        self.assertEqual([lot_count(ONE_RING, (0, 5)), lot_count(ONE_RING, (0, 4)), lot_count(STAR, (7,))], [5, 10, 1])
        self.assertEqual([lot_count(LONG_WAY, (2, 3)), lot_count(ONE, (0,))], [1, 1])
        self.assertEqual(lot_count(ONE_RING, EACH_ITS_OWN), 1)

    def test_moved(self):
        for chart in LOOKED_AT:
            for row in keeping_rows(chart)[:24]:
                for lot in all_lots(len(chart)):
                    wanted = tuple(sorted(row[place] for place in lot))
                    self.assertEqual(moved(chart, row, lot), wanted, (chart, row, lot))

    def test_moved_edges(self):
        turned = ONE_RING
        self.assertEqual([moved(ONE_RING, turned, ()), moved(ONE_RING, turned, (0, 9))], [(), (0, 1)])
        self.assertEqual([moved(ONE_RING, turned, EACH_ITS_OWN), moved(ONE, (0,), (0,))], [EACH_ITS_OWN, (0,)])

    def test_errors_of_moved_in_their_sequence(self):
        wrong_row, wrong_lot, not_keeping = (0, 0, 1, 2), (1, 0), (1, 0, 2, 3)
        self.assertEqual(raised_by(self, moved, [0], wrong_row, wrong_lot)[0], InvalidChart)
        self.assertEqual(raised_by(self, moved, EAR, wrong_row, wrong_lot)[0], InvalidRow)
        self.assertEqual(raised_by(self, moved, EAR, not_keeping, wrong_lot)[0], InvalidLot)
        self.assertEqual(raised_by(self, moved, EAR, not_keeping, (0, 1)), (NotKeeping, {"place": 0}))
        for wrong in NOT_LOTS:
            self.assertEqual(raised_by(self, moved, EAR, not_keeping, wrong)[0], InvalidLot, wrong)

    def test_errors_of_the_others_in_their_sequence(self):
        self.assertEqual(raised_by(self, row_leading, EAR, 4, -1)[0], InvalidPlace)
        self.assertEqual(raised_by(self, row_leading, (4,), 0, 0)[0], InvalidChart)
        self.assertEqual(raised_by(self, nth_keeping, EAR, True)[0], InvalidCount)
        self.assertEqual(raised_by(self, lot_count, EAR, (0, 4))[0], InvalidLot)
        self.assertEqual(raised_by(self, stay_count, EAR, deep((0,), 39))[0], InvalidLot)


if __name__ == "__main__":
    unittest.main()
