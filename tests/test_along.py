"""Points [18] and [19]: charts that go along."""

import itertools
import unittest

from everynext.along import (
    along_count, along_number, count_through, fewest_values, first_through, goals, goes_along, goes_to, going_parts,
    hitch, narrowest, nth_along, step_count, step_number,
)
from everynext.errors import InvalidChart, InvalidCount, InvalidPlace, InvalidWishes, NotAlong
from tests.helpers import (
    ALIKE_RINGS_ALIKE_TREES, BUSHES, CHARTS_OF_FOUR, CHARTS_OF_TEN, EACH_ITS_OWN, EAR, FACT_CHARTS,
    LENGTHS_THAT_DIVIDE, LONG_WAY, LONG_WAY_TO_TWO, NINETY_DIGITS, NOT_CHARTS, NOT_ROWS, NOT_WISHES, ONE, ONE_RING,
    PERIOD_THIRTY, SMALL_CHARTS, STAR, THREE_ALIKE_RINGS, leads, mixed_chart, plain_along, plain_step, raised_by,
    told_in_time,
)

# Charts with which all charts that go along can be found among all charts.
LOOKED_AT = SMALL_CHARTS + CHARTS_OF_FOUR + [
    (0, 1, 2, 3, 4), (1, 2, 3, 4, 0), (4, 4, 4, 4, 4), (0, 0, 1, 2, 3), (1, 0, 3, 2, 2), (1, 0, 3, 2, 4),
    (1, 0, 3, 4, 2), (3, 3, 3, 4, 3), (1, 2, 3, 0, 0), mixed_chart(5, 1), mixed_chart(5, 2),
]
FULL_NUMBERS = {EACH_ITS_OWN: 10 ** 10, ONE_RING: 10, LONG_WAY: 10, LONG_WAY_TO_TWO: 10, STAR: 10 ** 9}


def some_along(chart):
    """Some charts of ten places that go along with the chart: far steps, and some by their indexes."""
    count = along_count(chart)
    return [plain_step(chart, number) for number in range(4)] + [
        nth_along(chart, number) for number in sorted({0, count // 3, count // 2, count - 1})
    ]


class AlongTest(unittest.TestCase):
    def test_charts_in_their_sequence(self):
        for chart in LOOKED_AT:
            found = plain_along(chart)
            self.assertEqual(along_count(chart), len(found), chart)
            numbers = range(len(found)) if len(found) < 70 else range(0, len(found), len(found) // 7)
            for number in numbers:
                self.assertEqual(nth_along(chart, number), found[number], chart)
                self.assertEqual(along_number(chart, found[number]), number, chart)
            self.assertEqual(nth_along(chart, len(found) - 1), found[-1], chart)
            for number in (len(found), len(found) + 1, NINETY_DIGITS):
                self.assertIsNone(nth_along(chart, number), chart)

    def test_hitch_and_goes_along(self):
        for chart in SMALL_CHARTS + CHARTS_OF_FOUR[::5]:
            for other in (SMALL_CHARTS if len(chart) < 4 else CHARTS_OF_FOUR):
                if len(other) == len(chart):
                    failing = [x for x in range(len(chart)) if other[chart[x]] != chart[other[x]]]
                    wanted = failing[0] if failing else None
                    self.assertEqual(hitch(chart, other), wanted, (chart, other))
                    self.assertIs(goes_along(chart, other), not failing, (chart, other))
                    if failing:
                        self.assertEqual(raised_by(self, along_number, chart, other), (NotAlong, {"place": wanted}))
                else:
                    self.assertIs(goes_along(chart, other), False, (chart, other))

    def test_hitch_edges(self):
        self.assertEqual([hitch(ONE, (0,)), hitch(LONG_WAY, (0,) * 10), hitch(LONG_WAY, (9,) * 10)], [None, None, 0])
        self.assertEqual(hitch(LONG_WAY, (0,) * 9 + (5,)), 9)
        self.assertEqual(hitch(EACH_ITS_OWN, STAR), None)
        self.assertEqual([hitch(ONE_RING, ONE_RING), hitch(ONE_RING, (0,) * 10)], [None, 0])
        self.assertEqual(hitch((0, 0, 0), (0, 1, 0)), None)
        self.assertEqual([hitch((0, 0, 2), (0, 1, 1)), hitch((0, 0, 2), (0, 1, 0))], [2, None])

    def test_goes_along_of_other_values(self):
        for value in NOT_CHARTS + NOT_ROWS + [ONE, (0, 1, 2), EACH_ITS_OWN]:
            if value not in (EAR, EAR[::-1]):
                self.assertIs(goes_along((0, 0, 0, 0), value) and goes_along(EAR, value), False, value)
        self.assertIs(goes_along(EAR, list(EAR)), False)
        self.assertIs(goes_along((0, 1, 2, 3), (3, 3, 3, 3)), True)

    def test_numbers_of_ten_places(self):
        for chart, count in FULL_NUMBERS.items():
            self.assertEqual(told_in_time(self, along_count, chart), count)
        self.assertEqual([along_count(PERIOD_THIRTY), along_count((1, 0, 3, 2, 5, 4, 7, 6, 9, 8))], [30, 10 ** 5])
        self.assertEqual(along_count(THREE_ALIKE_RINGS), 9 * 9 * 10)
        self.assertEqual(along_count(LENGTHS_THAT_DIVIDE), 1 * 5 * 9 * 6)

    def test_indexes_of_ten_places(self):
        # All charts go along with the one in which each place is its own next one.
        self.assertEqual(nth_along(EACH_ITS_OWN, 3018492756), (3, 0, 1, 8, 4, 9, 2, 7, 5, 6))
        self.assertEqual(along_number(EACH_ITS_OWN, (0, 0, 1, 8, 4, 9, 2, 7, 5, 6)), 18492756)
        self.assertEqual(nth_along(EACH_ITS_OWN, 10 ** 10 - 1), (9,) * 10)
        for chart in CHARTS_OF_TEN:
            count = along_count(chart)
            for number in sorted(k for k in {0, 1, count // 3, count - 2, count - 1} if 0 <= k < count):
                other = told_in_time(self, nth_along, chart, number)
                self.assertTrue(leads(chart, chart, other), (chart, number))
                self.assertEqual(told_in_time(self, along_number, chart, other), number, chart)
            for number in (count, count + 1, NINETY_DIGITS):
                self.assertIsNone(told_in_time(self, nth_along, chart, number), chart)

    def test_errors(self):
        for chart in (EAR, EACH_ITS_OWN):
            for other in (ONE, (0, 1, 2), (0,) * 9, [0] * len(chart)):
                for function in (hitch, along_number, step_number):
                    self.assertEqual(raised_by(self, function, chart, other)[0], InvalidChart)
        self.assertEqual(raised_by(self, along_number, (0, 1, 3), ONE_RING)[0], InvalidChart)
        self.assertEqual(raised_by(self, nth_along, EAR, -1)[0], InvalidCount)
        self.assertEqual(raised_by(self, along_number, LONG_WAY, (0,) * 9 + (5,)), (NotAlong, {"place": 9}))


class WishesTest(unittest.TestCase):
    def some_wishes(self, count):
        pairs = list(itertools.product(range(count), repeat=2))
        told = [()] + [(pair,) for pair in pairs]
        told += [(one, two) for one, two in itertools.combinations(pairs, 2) if one[0] != two[0]][::3]
        return told + [tuple((x, (x * 2 + k) % count) for x in range(count)) for k in range(count)]

    def test_small_charts(self):
        for chart in SMALL_CHARTS + CHARTS_OF_FOUR[::5]:
            for wishes in self.some_wishes(len(chart)):
                found = [other for other in plain_along(chart) if all(other[x] == y for x, y in wishes)]
                self.assertEqual(count_through(chart, wishes), len(found), (chart, wishes))
                self.assertEqual(first_through(chart, wishes), found[0] if found else None, (chart, wishes))

    def test_all_wishes(self):
        for chart in CHARTS_OF_TEN:
            for other in some_along(chart):
                wishes = tuple(enumerate(other))
                self.assertEqual(told_in_time(self, count_through, chart, wishes), 1, (chart, other))
                self.assertEqual(told_in_time(self, first_through, chart, wishes), other, (chart, other))
                for size in (1, 4, 9):
                    found = told_in_time(self, first_through, chart, wishes[::-1][:size][::-1])
                    self.assertLessEqual(found, other)
                    self.assertEqual(found[10 - size:], other[10 - size:])

    def test_edges(self):
        self.assertEqual(count_through(EACH_ITS_OWN, ()), 10 ** 10)
        self.assertEqual(count_through(EACH_ITS_OWN, ((3, 3), (9, 0))), 10 ** 8)
        self.assertEqual(first_through(EACH_ITS_OWN, ((3, 7), (9, 1))), (0, 0, 0, 7, 0, 0, 0, 0, 0, 1))
        self.assertEqual([count_through(ONE, ((0, 0),)), first_through(ONE, ())], [1, (0,)])
        # What no chart that goes along does: to leave a ring, to go round one that does not divide it.
        self.assertEqual([count_through(STAR, ((7, 0),)), first_through(STAR, ((7, 0),))], [0, None])
        self.assertEqual([count_through(PERIOD_THIRTY, ((0, 2),)), first_through(PERIOD_THIRTY, ((5, 0),))], [0, None])
        self.assertEqual(first_through(LENGTHS_THAT_DIVIDE, ((3, 2), (9, 8))), (0, 0, 0, 2, 1, 2, 1, 8, 7, 8))
        self.assertEqual(first_through(ONE_RING, ((4, 2), (5, 3))), (8, 9, 0, 1, 2, 3, 4, 5, 6, 7))
        self.assertEqual(first_through(ONE_RING, ((4, 2), (5, 2))), None)

    def test_wrong_wishes(self):
        for wishes in NOT_WISHES:
            self.assertEqual(raised_by(self, count_through, EAR, wishes)[0], InvalidWishes, wishes)
            self.assertEqual(raised_by(self, first_through, EAR, wishes)[0], InvalidWishes, wishes)
        self.assertEqual(raised_by(self, count_through, (1,), ((9, 9),))[0], InvalidChart)


class GoalsTest(unittest.TestCase):
    def test_goals(self):
        for chart in LOOKED_AT:
            for place in range(len(chart)):
                wanted = tuple(sorted({other[place] for other in plain_along(chart)}))
                self.assertEqual(goals(chart, place), wanted, (chart, place))
                for goal in range(len(chart)):
                    self.assertIs(goes_to(chart, place, goal), goal in wanted, (chart, place, goal))

    def test_going_parts(self):
        for chart in LOOKED_AT:
            places = range(len(chart))
            reached = [{other[place] for other in plain_along(chart)} for place in places]
            lots = {tuple(y for y in places if y in reached[x] and x in reached[y]) for x in places}
            self.assertEqual(going_parts(chart), tuple(sorted(lots)), chart)

    def test_edges(self):
        self.assertEqual([goals(ONE, 0), goals(STAR, 7), goals(STAR, 0)], [(0,), (7,), EACH_ITS_OWN])
        self.assertEqual([goals(LONG_WAY, 0), goals(LONG_WAY, 6)], [(0,), EACH_ITS_OWN[:7]])
        self.assertEqual(goals(LONG_WAY, 9), EACH_ITS_OWN)
        self.assertEqual([goals(PERIOD_THIRTY, 3), goals(LENGTHS_THAT_DIVIDE, 3)], [(2, 3, 4), EACH_ITS_OWN[:9]])
        self.assertEqual([goals(LENGTHS_THAT_DIVIDE, 0), goals(LENGTHS_THAT_DIVIDE, 9)], [(0,), (0, 1, 2, 7, 8, 9)])
        self.assertEqual([goes_to(STAR, 0, 7), goes_to(STAR, 7, 0), goes_to(ONE, 0, 0)], [True, False, True])
        self.assertEqual([going_parts(ONE), going_parts(EACH_ITS_OWN)], [((0,),), (EACH_ITS_OWN,)])
        self.assertEqual(going_parts(STAR), ((0, 1, 2, 3, 4, 5, 6, 8, 9), (7,)))
        self.assertEqual(going_parts(LONG_WAY), tuple((place,) for place in range(10)))
        self.assertEqual(going_parts(LONG_WAY_TO_TWO), tuple((place,) for place in range(8)) + ((8, 9),))
        self.assertEqual(going_parts(LENGTHS_THAT_DIVIDE), ((0,), (1, 2, 7, 8), (3, 4, 5, 6), (9,)))
        for chart in CHARTS_OF_TEN:
            told_in_time(self, going_parts, chart)

    def test_errors(self):
        self.assertEqual(raised_by(self, goes_to, EAR, 4, 9)[0], InvalidPlace)
        self.assertEqual(raised_by(self, goes_to, EAR, 0, 4)[0], InvalidPlace)
        self.assertEqual(raised_by(self, goes_to, EAR, 0, True)[0], InvalidPlace)
        self.assertEqual(raised_by(self, goals, [0], 4)[0], InvalidChart)


class FewestTest(unittest.TestCase):
    def test_small_charts(self):
        for chart in LOOKED_AT:
            fewest = min(len(set(other)) for other in plain_along(chart))
            self.assertEqual(fewest_values(chart), fewest, chart)
            self.assertIn(narrowest(chart), plain_along(chart), chart)
            self.assertEqual(len(set(narrowest(chart))), fewest, chart)

    def test_ten_places(self):
        for chart in FACT_CHARTS + CHARTS_OF_TEN:
            found = told_in_time(self, narrowest, chart)
            self.assertTrue(leads(chart, chart, found), chart)
            self.assertEqual(len(set(found)), fewest_values(chart), chart)

    def test_edges(self):
        self.assertEqual([fewest_values(ONE), fewest_values(EACH_ITS_OWN), fewest_values(STAR)], [1, 1, 1])
        self.assertEqual([fewest_values(ONE_RING), fewest_values(PERIOD_THIRTY)], [10, 10])
        self.assertEqual([fewest_values(LONG_WAY_TO_TWO), fewest_values(LENGTHS_THAT_DIVIDE)], [2, 1])
        self.assertEqual([fewest_values((1, 0, 3, 4, 5, 2, 7, 8, 6)), fewest_values(THREE_ALIKE_RINGS)], [5, 3])
        self.assertEqual([fewest_values(ALIKE_RINGS_ALIKE_TREES), fewest_values(BUSHES)], [2, 1])


class StepsTest(unittest.TestCase):
    def test_step_number(self):
        for chart in FACT_CHARTS:
            found = [plain_step(chart, number) for number in range(45)]
            for number in range(45):
                self.assertEqual(step_number(chart, found[number]), found.index(found[number]), (chart, number))
            self.assertEqual(step_count(chart), len(set(found)), chart)

    def test_no_step(self):
        for chart in SMALL_CHARTS:
            for other in SMALL_CHARTS:
                if len(other) == len(chart):
                    found = [number for number in range(9) if plain_step(chart, number) == other]
                    self.assertEqual(step_number(chart, other), found[0] if found else None, (chart, other))
        self.assertEqual([step_number(ONE_RING, STAR), step_number(STAR, ONE_RING)], [None, None])

    def test_edges(self):
        self.assertEqual([step_count(ONE), step_count(EACH_ITS_OWN), step_count(STAR)], [1, 1, 2])
        self.assertEqual([step_count(ONE_RING), step_count(LONG_WAY), step_count(LONG_WAY_TO_TWO)], [10, 10, 10])
        self.assertEqual([step_count(PERIOD_THIRTY), step_number(LONG_WAY, (0,) * 10)], [30, 9])
        self.assertEqual(step_number(PERIOD_THIRTY, plain_step(PERIOD_THIRTY, 29)), 29)


if __name__ == "__main__":
    unittest.main()
