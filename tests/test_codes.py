"""Points [10] to [13]: codes, alike charts, and kinds."""

import itertools
import math
import unittest

from everynext.codes import (
    alike_count, alike_row, are_alike, chart_by_code, chart_code, is_alike_row, is_code, kind_count, kinds, least_alike,
    nth_alike_row, piece_code, tree_code,
)
from everynext.errors import InvalidChart, InvalidCode, InvalidCount, NotAlike, TooMany
from everynext.rings import children, pieces, rings
from tests.helpers import (
    ALIKE_RINGS_ALIKE_TREES, BUSHES, CHARTS, CHARTS_OF_TEN, EACH_ITS_OWN, EAR, FACT_CHARTS, LARGE_CHARTS,
    LENGTHS_THAT_DIVIDE, LONG_WAY, LONG_WAY_TO_TWO, NINETY_DIGITS, NOT_CHARTS, NOT_CODES, NOT_NUMBERS, NOT_ROWS, ONE,
    ONE_RING, PERIOD_THIRTY, SMALL_CHARTS, STAR, THREE_ALIKE_RINGS, all_charts, deep, leads, plain_chart_code,
    plain_piece_code, plain_rows, plain_tree_code, plainly_renamed, raised_by, some_rows, told_in_time,
)

LEAF = ()
# Codes of charts of ten places.
LONG_CODE = deep((), 11)
LONG_TO_TWO_CODE = (((), deep((), 8)),)


def nests(count):
    """All tuples of tuples, and so on, of so many tuples in all."""
    if count == 1:
        return [()]
    told = []
    for first in range(1, count):
        told += [(head,) + rest for head in nests(first) for rest in nests(count - first)]
    return told


class CodesTest(unittest.TestCase):
    def test_tree_code(self):
        for chart in FACT_CHARTS:
            for place in range(len(chart)):
                self.assertEqual(tree_code(chart, place), plain_tree_code(chart, place), (chart, place))

    def test_tree_code_edges(self):
        self.assertEqual([tree_code(ONE, 0), tree_code(ONE_RING, 4), tree_code(EACH_ITS_OWN, 9)], [(), (), ()])
        self.assertEqual([tree_code(STAR, 7), tree_code(STAR, 0)], [((),) * 9, ()])
        self.assertEqual([tree_code(LONG_WAY, 0), tree_code(LONG_WAY, 8)], [deep((), 9), ((),)])
        # The codes stand as Python orders tuples, not by places.
        self.assertEqual(tree_code((0, 0, 0, 1, 3), 0), ((), (((),),)))
        self.assertEqual(tree_code((0, 0, 0, 2, 2, 1, 0), 0), ((), ((),), ((), ())))

    def test_piece_code(self):
        for chart in FACT_CHARTS:
            for place in range(len(chart)):
                self.assertEqual(piece_code(chart, place), plain_piece_code(chart, place), (chart, place))

    def test_piece_code_edges(self):
        self.assertEqual([piece_code(ONE, 0), piece_code(ONE_RING, 7)], [((),), ((),) * 10])
        self.assertEqual([piece_code(LONG_WAY, 9), piece_code(LONG_WAY_TO_TWO, 9)], [LONG_CODE[0], LONG_TO_TWO_CODE[0]])
        # The way round counts: from the place with the leaf the next one is that with two leaves, or the other way.
        one_way, other_way = (1, 2, 0, 1, 2, 2), (1, 2, 0, 2, 1, 1)
        self.assertEqual(piece_code(one_way, 0), ((), ((),), ((), ())))
        self.assertEqual(piece_code(other_way, 0), ((), ((), ()), ((),)))
        self.assertEqual([piece_code(BUSHES, 0), piece_code(BUSHES, 9)], [((), ((),), ((), (), ())), ((((),),),)])

    def test_chart_code(self):
        for chart in FACT_CHARTS:
            self.assertEqual(chart_code(chart), plain_chart_code(chart), chart)

    def test_chart_code_edges(self):
        self.assertEqual([chart_code(ONE), chart_code(EACH_ITS_OWN)], [(((),),), (((),),) * 10])
        self.assertEqual([chart_code(ONE_RING), chart_code(STAR)], [(((),) * 10,), ((((),) * 9,),)])
        self.assertEqual([chart_code(LONG_WAY), chart_code(LONG_WAY_TO_TWO)], [LONG_CODE, LONG_TO_TWO_CODE])
        self.assertEqual(chart_code(PERIOD_THIRTY), (((),) * 2, ((),) * 3, ((),) * 5))
        self.assertEqual(chart_code(ALIKE_RINGS_ALIKE_TREES), ((((), ())), (((),), ((),)), (((),), ((),))))
        self.assertEqual(chart_code(THREE_ALIKE_RINGS), (((),) * 3, ((),) * 3, ((), (), ((),))))


class IsCodeTest(unittest.TestCase):
    def test_all_small_nests(self):
        # A code of a chart of p places and q pieces is made of 1 + p + q tuples.
        codes = [plain_chart_code(chart) for count in range(1, 6) for chart in all_charts(count)]
        codes = sorted(set(map(repr, codes)))
        for count in range(1, 8):
            for nest in nests(count):
                self.assertEqual(is_code(nest), repr(nest) in codes, nest)

    def test_codes_of_charts(self):
        for chart in FACT_CHARTS:
            self.assertIs(is_code(plain_chart_code(chart)), True, chart)

    def test_no_codes(self):
        for value in NOT_CODES + NOT_ROWS + NOT_NUMBERS + NOT_CHARTS:
            self.assertIs(is_code(value), False, value)

    def test_ten_places_and_eleven(self):
        self.assertEqual([is_code(deep((), 11)), is_code(deep((), 12)), is_code(deep((), 40))], [True, False, False])
        self.assertEqual([is_code((((),),) * 10), is_code((((),),) * 11)], [True, False])
        self.assertEqual([is_code((((),) * 10,)), is_code((((),) * 11,))], [True, False])
        self.assertEqual([is_code(((((),) * 9,),)), is_code(((((),) * 10,),))], [True, False])

    def test_parts_out_of_sequence(self):
        right = (((), ((),)), ((((),), ((), ())),))
        self.assertIs(is_code(right), True)
        wrong = [
            right[::-1], (right[0][::-1], right[1]), (right[0], ((((), ()), ((),)),)),
            right[:1] + ((),) + right[1:], right + ((),), ((),) + right, list(right), (list(right[0]), right[1]),
        ]
        for value in wrong:
            self.assertIs(is_code(value), False, value)
        # With a part less or more it may be another code, as long as there are ten places at most.
        self.assertEqual([is_code(right[:1]), is_code(right[1:]), is_code(right[:1] + right)], [True, True, False])
        self.assertEqual([is_code((((),),) + right), is_code((((),), ((),)) + right)], [True, False])


class ChartByCodeTest(unittest.TestCase):
    def assert_numbered(self, chart, code):
        """The numbering that [11] tells, looked at from the chart."""
        self.assertEqual(plain_chart_code(chart), code)
        begin = 0
        for lot, ring_code in zip(pieces(chart), code, strict=True):
            self.assertEqual(lot, tuple(range(begin, begin + len(lot))), chart)
            ring = [found for found in rings(chart) if found[0] in lot][0]
            self.assertEqual(ring, lot[:len(ring)], chart)
            self.assertEqual(tuple(plain_tree_code(chart, place) for place in ring), ring_code, chart)
            numbered = list(ring)
            for place in lot:
                under = children(chart, place)
                self.assertEqual([plain_tree_code(chart, child) for child in under],
                                 list(plain_tree_code(chart, place)), chart)
                numbered += under
            self.assertEqual(numbered, list(lot), chart)
            begin += len(lot)

    def test_numbering(self):
        for chart in FACT_CHARTS:
            code = plain_chart_code(chart)
            self.assert_numbered(chart_by_code(code), code)

    def test_edges(self):
        self.assertEqual([chart_by_code((((),),)), chart_by_code((((),),) * 10)], [ONE, EACH_ITS_OWN])
        self.assertEqual([chart_by_code((((),) * 10,)), chart_by_code(LONG_CODE)], [ONE_RING, LONG_WAY])
        self.assertEqual(chart_by_code(((((),) * 9,),)), (0,) * 10)
        self.assertEqual(chart_by_code(LONG_TO_TWO_CODE), (1, 0, 1, 2, 3, 4, 5, 6, 7, 8))
        # The children of the first places come ahead of all deeper ones.
        self.assertEqual(chart_by_code(((((), ((),)), (((),),)),)), (1, 0, 0, 0, 1, 3, 4))
        self.assertEqual(chart_by_code((((),), ((((),), ((),)),))), (0, 1, 1, 1, 2, 3))

    def test_no_codes(self):
        for value in NOT_CODES:
            self.assertEqual(raised_by(self, chart_by_code, value)[0], InvalidCode, value)


class LeastAlikeTest(unittest.TestCase):
    def test_all_renamings(self):
        for chart in FACT_CHARTS:
            if len(chart) < 7:
                rows = itertools.permutations(range(len(chart)))
                self.assertEqual(least_alike(chart), min(plainly_renamed(chart, row) for row in rows), chart)

    def test_seven_places_and_eight(self):
        seven = (6,) * 7
        self.assertEqual(told_in_time(self, least_alike, seven), (0,) * 7)
        self.assertEqual(least_alike((1, 0, 3, 2, 5, 4, 6)), (0, 2, 1, 4, 3, 6, 5))
        for chart in LARGE_CHARTS:
            if len(chart) > 7:
                self.assertEqual(raised_by(self, least_alike, chart), (TooMany, {"count": 7}))
        self.assertEqual(raised_by(self, least_alike, (0,) * 8), (TooMany, {"count": 7}))
        self.assertEqual(raised_by(self, least_alike, (0,) * 11)[0], InvalidChart)

    def test_edges(self):
        self.assertEqual([least_alike(ONE), least_alike((1, 1)), least_alike((2, 0, 1))], [(0,), (0, 0), (1, 2, 0)])


class AlikeTest(unittest.TestCase):
    def pairs(self):
        return [(chart, other) for chart in SMALL_CHARTS for other in SMALL_CHARTS] + [
            (chart, other) for chart in all_charts(4)[::5] for other in all_charts(4)[::7]
        ]

    def first_unlike(self, chart, other_chart):
        code, other_code = plain_chart_code(chart), plain_chart_code(other_chart)
        return min(part for part in code + other_code if code.count(part) != other_code.count(part))

    def test_small_charts(self):
        for chart, other in self.pairs():
            rows = plain_rows(chart, other) if len(chart) == len(other) else ()
            self.assertIs(are_alike(chart, other), bool(rows), (chart, other))
            if rows:
                self.assertEqual(alike_row(chart, other), rows[0], (chart, other))
                self.assertEqual([nth_alike_row(chart, other, k) for k in range(len(rows))], list(rows), (chart, other))
                for number in (len(rows), len(rows) + 1, NINETY_DIGITS):
                    self.assertIsNone(nth_alike_row(chart, other, number), (chart, other))
            else:
                wanted = NotAlike, {"code": self.first_unlike(chart, other)}
                self.assertEqual(raised_by(self, alike_row, chart, other), wanted, (chart, other))
                for number in (0, NINETY_DIGITS):
                    self.assertEqual(raised_by(self, nth_alike_row, chart, other, number), wanted, (chart, other))

    def test_renamed_charts(self):
        for chart in LARGE_CHARTS:
            for row in some_rows(len(chart)):
                other = plainly_renamed(chart, row)
                self.assertIs(told_in_time(self, are_alike, chart, other), True)
                found = told_in_time(self, alike_row, chart, other)
                self.assertTrue(leads(chart, other, found), (chart, other, found))
                self.assertLessEqual(found, row)
                self.assertEqual(nth_alike_row(chart, other, 0), found)

    def test_rows_of_six_places(self):
        for chart in ((1, 0, 3, 2, 5, 4), (0, 1, 2, 3, 4, 5), (5,) * 6, (1, 2, 0, 4, 5, 3), (1, 0, 0, 1, 4, 4)):
            other = plainly_renamed(chart, (2, 4, 0, 5, 1, 3))
            rows = plain_rows(chart, other)
            self.assertEqual([nth_alike_row(chart, other, k) for k in range(len(rows))], list(rows), chart)
            self.assertIsNone(nth_alike_row(chart, other, len(rows)), chart)

    def test_rows_of_ten_places(self):
        last = math.factorial(10) - 1
        self.assertEqual(told_in_time(self, nth_alike_row, EACH_ITS_OWN, EACH_ITS_OWN, last), EACH_ITS_OWN[::-1])
        self.assertIsNone(told_in_time(self, nth_alike_row, EACH_ITS_OWN, EACH_ITS_OWN, last + 1))
        self.assertEqual(nth_alike_row(EACH_ITS_OWN, EACH_ITS_OWN, 362880 + 1), (1, 0, 2, 3, 4, 5, 6, 7, 9, 8))
        self.assertEqual(told_in_time(self, alike_row, STAR, (0,) * 10), (1, 2, 3, 4, 5, 6, 7, 0, 8, 9))
        self.assertEqual(alike_row(LONG_WAY, tuple(range(1, 10)) + (9,)), EACH_ITS_OWN[::-1])
        for chart in CHARTS_OF_TEN:
            other = plainly_renamed(chart, EACH_ITS_OWN[::-1])
            count = math.factorial(10) // alike_count(chart)
            found = [told_in_time(self, nth_alike_row, chart, other, k) for k in range(0, count, count // 7 + 1)]
            self.assertEqual(found, sorted(found), chart)
            self.assertTrue(all(leads(chart, other, row) for row in found), chart)
            self.assertIsNone(nth_alike_row(chart, other, count), chart)

    def test_not_alike_tells_the_least_piece_code(self):
        two_rings, star = (1, 0, 3, 2), (0, 0, 0, 0)
        self.assertEqual(raised_by(self, alike_row, two_rings, star), (NotAlike, {"code": ((), ())}))
        self.assertEqual(raised_by(self, alike_row, star, two_rings), (NotAlike, {"code": ((), ())}))
        # Two and three of a piece that both have.
        self.assertEqual(raised_by(self, alike_row, (0, 1), (0, 1, 2)), (NotAlike, {"code": ((),)}))
        self.assertEqual(raised_by(self, alike_row, ONE, ONE_RING), (NotAlike, {"code": ((),)}))
        self.assertEqual(raised_by(self, alike_row, (0, 2, 1), (0, 1, 1)), (NotAlike, {"code": ((), ())}))
        self.assertEqual(raised_by(self, nth_alike_row, EAR, (0,), NINETY_DIGITS), (NotAlike, {"code": ((),)}))

    def test_errors_of_parameters_come_first(self):
        self.assertEqual(raised_by(self, nth_alike_row, ONE, ONE_RING, -1)[0], InvalidCount)
        self.assertEqual(raised_by(self, nth_alike_row, (1,), ONE_RING, -1)[0], InvalidChart)
        self.assertEqual(raised_by(self, nth_alike_row, ONE, [0], -1)[0], InvalidChart)
        self.assertEqual(raised_by(self, is_alike_row, ONE, [0], None)[0], InvalidChart)

    def test_unlike_numbers_of_places(self):
        for chart, other in ((ONE, (0, 1)), ((0, 1), ONE), (ONE_RING, ONE), (EAR, STAR)):
            self.assertIs(are_alike(chart, other), False)
            self.assertEqual(raised_by(self, alike_row, chart, other)[0], NotAlike)
            self.assertIs(is_alike_row(chart, other, tuple(range(len(chart)))), False)
            self.assertIs(is_alike_row(chart, other, tuple(range(len(other)))), False)

    def test_is_alike_row(self):
        for chart, other in self.pairs():
            if len(chart) == len(other):
                for row in itertools.permutations(range(len(chart))):
                    self.assertIs(is_alike_row(chart, other, row), leads(chart, other, row), (chart, other, row))

    def test_is_alike_row_of_other_values(self):
        for value in NOT_ROWS + NOT_CHARTS[:20] + [EAR, (3, 3, 3, 3), (0, 0, 0, 0)]:
            for chart in (EAR, (0, 1, 2, 3), (0, 0, 0, 0)):
                self.assertIs(is_alike_row(chart, chart, value), False, value)
        self.assertIs(is_alike_row(EAR, EAR, (3, 2, 1, 0)), True)
        self.assertIs(is_alike_row(EAR, (2, 2, 1, 1), (3, 1, 2, 0)), True)
        self.assertIs(is_alike_row((2, 2, 1, 1), EAR, (3, 1, 2, 0)), True)
        self.assertIs(is_alike_row(EAR, (2, 2, 1, 1), (0, 1, 2, 3)), False)

    def test_alike_count(self):
        for chart in FACT_CHARTS:
            if len(chart) < 6:
                rows = itertools.permutations(range(len(chart)))
                self.assertEqual(alike_count(chart), len({plainly_renamed(chart, row) for row in rows}), chart)

    def test_alike_count_edges(self):
        self.assertEqual([alike_count(ONE), alike_count(EACH_ITS_OWN), alike_count(STAR)], [1, 1, 10])
        self.assertEqual([alike_count(ONE_RING), alike_count(LONG_WAY)], [math.factorial(9), math.factorial(10)])
        self.assertEqual(alike_count(LENGTHS_THAT_DIVIDE), math.factorial(10) // 8)


class KindsTest(unittest.TestCase):
    def test_kinds(self):
        for count in range(1, 6):
            codes = sorted(plain_chart_code(chart) for chart in all_charts(count))
            wanted = [code for index, code in enumerate(codes) if index == 0 or code != codes[index - 1]]
            self.assertEqual(kinds(count), wanted, count)
            self.assertEqual(kind_count(count), len(wanted), count)

    def test_kinds_of_six(self):
        found = told_in_time(self, kinds, 6)
        self.assertEqual([len(found), found], [130, sorted(found)])
        self.assertTrue(all(is_code(code) for code in found))
        self.assertTrue(all(one != other for one, other in zip(found, found[1:])))

    def test_too_many_kinds(self):
        for count in (7, 8, 9, 10):
            self.assertEqual(raised_by(self, kinds, count), (TooMany, {"count": 6}))
        for count in (0, -1, 11, 12, NINETY_DIGITS, True, "6"):
            self.assertEqual(raised_by(self, kinds, count)[0], InvalidCount)
            self.assertEqual(raised_by(self, kind_count, count)[0], InvalidCount)

    def test_kind_count(self):
        found = [told_in_time(self, kind_count, count) for count in range(1, 11)]
        self.assertEqual(found, [1, 3, 7, 19, 47, 130, 343, 951, 2615, 7318])


if __name__ == "__main__":
    unittest.main()
