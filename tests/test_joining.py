"""Points [34] and [35]: two places of a chart, and charts that are put together or changed at some places."""

import itertools
import unittest

from everynext.errors import InvalidChart, InvalidPlace, TooMany
from everynext.joining import (
    beside, both_come, comers, exchanged, first_common, hung, less_place, stepped_in, steps_to, together_counts,
    together_parts, together_steps, turned,
)
from tests.helpers import (
    CHARTS, CHARTS_OF_FOUR, CHARTS_OF_TEN, EACH_ITS_OWN, EAR, FACT_CHARTS, LARGE_CHARTS, LONG_WAY, LONG_WAY_TO_TWO,
    NOT_CHARTS, NOT_PLACES, ONE, ONE_RING, SMALL_CHARTS, STAR, plain_depth, plain_ring_of, raised_by, told_in_time,
    walked,
)

# Charts of up to nine places, to which a place may come.
WITH_ROOM = [chart for chart in CHARTS if len(chart) < 10]
ERROR_OF_TEN = (TooMany, {"count": 10})


def pairs(chart):
    return itertools.product(range(len(chart)), repeat=2)


def plain_steps(chart, place, other):
    """The least number of steps from the one to the other; whoever gets there does so with less than n steps."""
    found = [k for k in range(len(chart)) if walked(chart, place, k) == other]
    return found[0] if found else None


def by_names(chart):
    """The chart as a dict from each place to its next one."""
    return dict(enumerate(chart))


def numbered(nexts):
    """The chart of a dict, its names numbered in their sequence."""
    names = sorted(nexts)
    return tuple(names.index(nexts[name]) for name in names)


class TwoPlacesTest(unittest.TestCase):
    def test_steps_to(self):
        for chart in FACT_CHARTS:
            for place, other in pairs(chart):
                self.assertEqual(steps_to(chart, place, other), plain_steps(chart, place, other), (chart, place, other))

    def test_steps_to_at_edges(self):
        self.assertEqual([steps_to(ONE_RING, 3, 2), steps_to(ONE_RING, 3, 3), steps_to(ONE_RING, 0, 9)], [9, 0, 9])
        self.assertEqual([steps_to(LONG_WAY, 9, 0), steps_to(LONG_WAY, 0, 9), steps_to(ONE, 0, 0)], [9, None, 0])
        self.assertEqual([steps_to(EACH_ITS_OWN, 4, 4), steps_to(EACH_ITS_OWN, 4, 5)], [0, None])
        self.assertEqual([steps_to(STAR, 0, 7), steps_to(STAR, 7, 0), steps_to(STAR, 0, 1)], [1, None, None])

    def test_comers(self):
        for chart in FACT_CHARTS:
            for place in range(len(chart)):
                wanted = tuple(x for x in range(len(chart)) if plain_steps(chart, x, place) is not None)
                self.assertEqual(comers(chart, place), wanted, (chart, place))

    def test_comers_at_edges(self):
        self.assertEqual([comers(ONE, 0), comers(EACH_ITS_OWN, 6), comers(STAR, 6)], [(0,), (6,), (6,)])
        self.assertEqual([comers(STAR, 7), comers(ONE_RING, 4)], [tuple(range(10))] * 2)
        self.assertEqual([comers(LONG_WAY, 4), comers(LONG_WAY, 9)], [(4, 5, 6, 7, 8, 9), (9,)])

    def test_both_come(self):
        for chart in FACT_CHARTS:
            for place, other in pairs(chart):
                wanted = tuple(
                    x for x in range(len(chart))
                    if plain_steps(chart, place, x) is not None and plain_steps(chart, other, x) is not None
                )
                self.assertEqual(both_come(chart, place, other), wanted, (chart, place, other))

    def test_both_come_at_edges(self):
        self.assertEqual(
            [both_come(STAR, 0, 1), both_come(STAR, 3, 3), both_come(EACH_ITS_OWN, 0, 1)], [(7,), (3, 7), ()]
        )
        self.assertEqual([both_come(LONG_WAY, 2, 9), both_come(LONG_WAY_TO_TWO, 0, 9)], [(0, 1, 2), (8, 9)])
        self.assertEqual(both_come(ONE, 0, 0), (0,))

    def test_first_common(self):
        for chart in FACT_CHARTS:
            for place, other in pairs(chart):
                # All common places are met with less than n steps of each.
                found = [
                    (i + j, i, j, walked(chart, place, i))
                    for i, j in pairs(chart) if walked(chart, place, i) == walked(chart, other, j)
                ]
                wanted = min(found)[1:] if found else None
                self.assertEqual(first_common(chart, place, other), wanted, (chart, place, other))

    def test_first_common_at_edges(self):
        self.assertEqual([first_common(ONE, 0, 0), first_common(STAR, 4, 4)], [(0, 0, 0), (0, 0, 4)])
        self.assertEqual([first_common(EACH_ITS_OWN, 0, 9), first_common(STAR, 4, 5)], [None, (1, 1, 7)])
        # On a ring of two places each comes to the other with one step: the one that stays is told.
        self.assertEqual([first_common((1, 0), 0, 1), first_common((1, 0), 1, 0)], [(0, 1, 0), (0, 1, 1)])
        self.assertEqual([first_common(ONE_RING, 0, 5), first_common(ONE_RING, 5, 0)], [(0, 5, 0), (0, 5, 5)])
        self.assertEqual([first_common(ONE_RING, 0, 4), first_common(ONE_RING, 4, 0)], [(4, 0, 4), (0, 4, 4)])
        self.assertEqual([first_common(LONG_WAY, 9, 0), first_common(LONG_WAY, 0, 9)], [(9, 0, 0), (0, 9, 0)])
        # Branches at both places of a ring of two: three ways with two steps in all.
        self.assertEqual(first_common((1, 0, 0, 1), 2, 3), (1, 2, 0))
        self.assertEqual(first_common((1, 0, 0, 1), 3, 2), (1, 2, 1))

    def test_together_steps(self):
        for chart in FACT_CHARTS:
            for place, other in pairs(chart):
                found = [k for k in range(12) if walked(chart, place, k) == walked(chart, other, k)]
                wanted = found[0] if found else None
                self.assertEqual(together_steps(chart, place, other), wanted, (chart, place, other))

    def test_together_steps_at_edges(self):
        self.assertEqual([together_steps(ONE, 0, 0), together_steps(ONE_RING, 2, 2)], [0, 0])
        self.assertEqual([together_steps(ONE_RING, 0, 5), together_steps(EACH_ITS_OWN, 1, 2)], [None, None])
        self.assertEqual([together_steps(LONG_WAY, 9, 0), together_steps(LONG_WAY, 8, 9)], [9, 9])
        self.assertEqual([together_steps(STAR, 0, 9), together_steps(STAR, 0, 7)], [1, 1])
        self.assertEqual([together_steps(LONG_WAY_TO_TWO, 0, 8), together_steps(LONG_WAY_TO_TWO, 0, 9)], [8, None])

    def test_together_counts(self):
        for chart in FACT_CHARTS:
            rows = itertools.combinations(range(len(chart)), 2)
            found = [together_steps(chart, place, other) for place, other in rows]
            high = max(plain_depth(chart, place) for place in range(len(chart)))
            wanted = [len([k for k in found if k is not None and k <= number]) for number in range(high + 1)]
            self.assertEqual(together_counts(chart), wanted, chart)

    def test_together_counts_at_edges(self):
        self.assertEqual([together_counts(ONE), together_counts(EACH_ITS_OWN), together_counts(ONE_RING)], [[0]] * 3)
        self.assertEqual(together_counts(STAR), [0, 45])
        self.assertEqual(together_counts(LONG_WAY), [0, 1, 3, 6, 10, 15, 21, 28, 36, 45])
        self.assertEqual(together_counts((0, 0)), [0, 1])

    def test_together_parts(self):
        for chart in FACT_CHARTS:
            count = len(chart)
            lots = {
                tuple(y for y in range(count) if walked(chart, y, 10) == walked(chart, x, 10)) for x in range(count)
            }
            self.assertEqual(together_parts(chart), tuple(sorted(lots)), chart)

    def test_together_parts_at_edges(self):
        self.assertEqual([together_parts(ONE), together_parts(STAR)], [((0,),), (tuple(range(10)),)])
        self.assertEqual(together_parts(ONE_RING), tuple((place,) for place in range(10)))
        self.assertEqual(together_parts(EACH_ITS_OWN), tuple((place,) for place in range(10)))
        self.assertEqual(together_parts(LONG_WAY_TO_TWO), ((0, 2, 4, 6, 8), (1, 3, 5, 7, 9)))

    def test_lists_are_new(self):
        told = together_counts(EAR)
        told.append(9)
        self.assertEqual(together_counts(EAR), [0, 2])

    def test_ten_places_in_time(self):
        for chart in CHARTS_OF_TEN:
            told_in_time(self, together_counts, chart)
            told_in_time(self, together_parts, chart)
            for place, other in ((0, 9), (9, 0), (5, 5)):
                for function in (steps_to, both_come, first_common, together_steps):
                    told_in_time(self, function, chart, place, other)

    def test_wrong_arguments(self):
        for function in (steps_to, both_come, first_common, together_steps, exchanged):
            for wrong in NOT_CHARTS:
                self.assertEqual(raised_by(self, function, wrong, None, -1), (InvalidChart, {}), function)
            for wrong in NOT_PLACES:
                self.assertEqual(raised_by(self, function, EAR, wrong, 0), (InvalidPlace, {}), function)
                self.assertEqual(raised_by(self, function, EAR, 0, wrong), (InvalidPlace, {}), function)
        for function in (comers, stepped_in, less_place):
            for wrong in NOT_CHARTS:
                self.assertEqual(raised_by(self, function, wrong, None), (InvalidChart, {}), function)
            for wrong in NOT_PLACES:
                self.assertEqual(raised_by(self, function, EAR, wrong), (InvalidPlace, {}), function)
        for function in (together_counts, together_parts, turned):
            for wrong in NOT_CHARTS:
                self.assertEqual(raised_by(self, function, wrong), (InvalidChart, {}), function)


class PutTogetherTest(unittest.TestCase):
    def test_beside(self):
        for chart, other in itertools.product(WITH_ROOM[::3], WITH_ROOM[::4]):
            if len(chart) + len(other) <= 10:
                told = beside(chart, other)
                nexts = {("a", x): ("a", y) for x, y in enumerate(chart)}
                nexts.update({("b", x): ("b", y) for x, y in enumerate(other)})
                self.assertEqual(told, numbered(nexts), (chart, other))
            else:
                self.assertEqual(raised_by(self, beside, chart, other), ERROR_OF_TEN)

    def test_ten_places_and_eleven(self):
        nine = (0,) * 9
        self.assertEqual([beside(nine, ONE), beside(ONE, nine)], [nine + (9,), (0,) + (1,) * 9])
        self.assertEqual(beside((1, 2, 3, 4, 0), (4, 0, 1, 2, 3)), (1, 2, 3, 4, 0, 9, 5, 6, 7, 8))
        for chart, other in ((EACH_ITS_OWN, ONE), (ONE, STAR), (nine, (1, 0)), (STAR, ONE_RING), ((0,) * 5, (0,) * 6)):
            self.assertEqual(raised_by(self, beside, chart, other), ERROR_OF_TEN)
            self.assertEqual(raised_by(self, hung, chart, 0, other, 0), ERROR_OF_TEN)
        self.assertEqual([hung(nine, 3, ONE, 0), hung(ONE, 0, nine, 0)], [nine + (3,), (0, 0) + (1,) * 8])
        self.assertEqual(stepped_in(nine, 0), (9,) + (0,) * 9)
        for chart in CHARTS_OF_TEN:
            for place in range(10):
                self.assertEqual(raised_by(self, stepped_in, chart, place), ERROR_OF_TEN)

    def test_errors_of_parameters_go_ahead(self):
        for wrong in NOT_CHARTS:
            self.assertEqual(raised_by(self, beside, wrong, None), (InvalidChart, {}))
            self.assertEqual(raised_by(self, beside, STAR, wrong), (InvalidChart, {}))
            self.assertEqual(raised_by(self, hung, wrong, None, None, None), (InvalidChart, {}))
            self.assertEqual(raised_by(self, hung, STAR, 9, wrong, None), (InvalidChart, {}))
        for wrong in NOT_PLACES:
            self.assertEqual(raised_by(self, hung, EAR, wrong, None, None), (InvalidPlace, {}))
            self.assertEqual(raised_by(self, hung, STAR, 0, EAR, wrong), (InvalidPlace, {}))
        self.assertEqual(raised_by(self, stepped_in, STAR, 10), (InvalidPlace, {}))
        self.assertEqual(raised_by(self, hung, STAR, 10, ONE, 0), (InvalidPlace, {}))
        # The places of each of the two are those of the chart ahead of them.
        self.assertEqual(raised_by(self, hung, ONE, 1, EAR, 3), (InvalidPlace, {}))
        self.assertEqual(raised_by(self, hung, EAR, 3, ONE, 1), (InvalidPlace, {}))
        self.assertEqual(hung(EAR, 3, ONE, 0), (1, 2, 1, 2, 3))

    def test_hung(self):
        for chart, other in itertools.product(WITH_ROOM[::9], WITH_ROOM[::7]):
            if len(chart) + len(other) > 10:
                continue
            for place, other_place in itertools.product(range(len(chart)), range(len(other))):
                nexts = {("a", x): ("a", y) for x, y in enumerate(chart)}
                nexts.update({("b", x): ("b", y) for x, y in enumerate(other)})
                nexts["b", other_place] = ("a", place)
                self.assertEqual(hung(chart, place, other, other_place), numbered(nexts), (chart, other))

    def test_exchanged(self):
        for chart in FACT_CHARTS:
            for place, other in pairs(chart):
                if place == other:
                    self.assertEqual(raised_by(self, exchanged, chart, place, other), (InvalidPlace, {}))
                    continue
                nexts = by_names(chart)
                nexts[place], nexts[other] = nexts[other], nexts[place]
                self.assertEqual(exchanged(chart, place, other), numbered(nexts), (chart, place, other))

    def test_exchanged_at_edges(self):
        self.assertEqual(
            [exchanged((0, 1), 0, 1), exchanged((1, 0), 1, 0), exchanged(STAR, 0, 7)], [(1, 0), (0, 1), STAR]
        )
        self.assertEqual(exchanged(ONE_RING, 0, 5), (6, 2, 3, 4, 5, 1, 7, 8, 9, 0))
        self.assertEqual(raised_by(self, exchanged, ONE, 0, 0), (InvalidPlace, {}))

    def test_stepped_in(self):
        for chart in WITH_ROOM + CHARTS_OF_FOUR:
            for place in range(len(chart)):
                nexts = by_names(chart)
                nexts[len(chart)] = nexts[place]
                nexts[place] = len(chart)
                self.assertEqual(stepped_in(chart, place), numbered(nexts), (chart, place))

    def test_stepped_in_at_edges(self):
        self.assertEqual(
            [stepped_in(ONE, 0), stepped_in((0, 0), 1), stepped_in((0, 0), 0)], [(1, 0), (0, 2, 0), (2, 0, 0)]
        )

    def test_less_place(self):
        for chart in FACT_CHARTS:
            for place in range(len(chart)):
                if len(chart) == 1:
                    continue
                nexts = by_names(chart)
                goal = nexts.pop(place)
                others = sorted(x for x in nexts if nexts[x] == place)
                for other in others:
                    nexts[other] = others[0] if goal == place else goal
                self.assertEqual(less_place(chart, place), numbered(nexts), (chart, place))

    def test_less_place_at_edges(self):
        self.assertEqual(raised_by(self, less_place, ONE, 0), (InvalidPlace, {}))
        # Each its own next one: no other place led to the one that goes.
        self.assertEqual([less_place(EACH_ITS_OWN, 4), less_place((0, 1), 0)], [tuple(range(9)), (0,)])
        # One that was its own next one, and to which one other one, or all others, led.
        self.assertEqual(
            [less_place((0, 0), 0), less_place((0, 0, 1), 0), less_place(STAR, 7)], [(0,), (0, 0), (0,) * 9]
        )
        self.assertEqual([less_place((2, 3, 2, 2, 3), 2), less_place((1, 1, 1), 1)], [(0, 2, 0, 2), (0, 0)])
        self.assertEqual([less_place(ONE_RING, 0), less_place((1, 0), 0)], [(1, 2, 3, 4, 5, 6, 7, 8, 0), (0,)])
        self.assertEqual([less_place(LONG_WAY, 0), less_place(LONG_WAY, 9)], [LONG_WAY[:9], LONG_WAY[:9]])

    def test_turned(self):
        for chart in FACT_CHARTS:
            wanted = list(chart)
            for place in range(len(chart)):
                ring = plain_ring_of(chart, place)
                if place in ring:
                    wanted[place] = ring[ring.index(place) - 1]
            self.assertEqual(turned(chart), tuple(wanted), chart)

    def test_turned_at_edges(self):
        self.assertEqual(
            [turned(ONE), turned((1, 0)), turned(EACH_ITS_OWN), turned(STAR)], [ONE, (1, 0), EACH_ITS_OWN, STAR]
        )
        self.assertEqual(turned(ONE_RING), (9, 0, 1, 2, 3, 4, 5, 6, 7, 8))
        self.assertEqual(turned((1, 2, 0, 0, 3)), (2, 0, 1, 0, 3))

    def test_small_charts_change_as_told(self):
        self.assertEqual([beside(chart, ONE)[-1] for chart in SMALL_CHARTS], [len(chart) for chart in SMALL_CHARTS])
        for chart in LARGE_CHARTS:
            self.assertEqual(exchanged(exchanged(chart, 0, 1), 0, 1), chart)


if __name__ == "__main__":
    unittest.main()
