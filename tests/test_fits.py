"""Points [29] to [31]: fits of a chart into another one."""

import itertools
import math
import unittest

from everynext.errors import InvalidChart, InvalidCount, InvalidFit, InvalidLot, InvalidWishes, NoFit, TooMany
from everynext.fits import (
    all_fits, can_lay, core, first_fit, first_wished, fit_count, fit_image, fit_number, fit_split, go_both_ways, is_fit,
    nth_fit, onto_count, wished_count,
)
from tests.helpers import (
    ALIKE_RINGS_ALIKE_TREES, BUSHES, CHARTS_OF_FOUR, CHARTS_OF_TEN, EACH_ITS_OWN, EAR, LARGE_CHARTS,
    LENGTHS_THAT_DIVIDE, LONG_WAY, LONG_WAY_TO_TWO, NINETY_DIGITS, NOT_CHARTS, NOT_FITS, NOT_LOTS, NOT_NUMBERS,
    NOT_WISHES, ONE, ONE_RING, PERIOD_THIRTY, SMALL_CHARTS, STAR, THREE_ALIKE_RINGS, all_lots, is_plainly_kept, leads,
    mixed_chart, one_of_each_kind, plain_fits, plain_ring_of, raised_by, told_in_time,
)

OTHER = (3, 3, 1, 0)
FIT = (3, 0, 3, 1)
KINDS = [chart for count in range(1, 5) for chart in one_of_each_kind(count)]
# Pairs whose fits can all be looked at.
PAIRS = list(itertools.product(SMALL_CHARTS, SMALL_CHARTS)) + [
    pair for chart in CHARTS_OF_FOUR for other in KINDS for pair in ((chart, other), (other, chart))
][::7] + [
    ((1, 2, 3, 4, 0), (0, 1)), ((1, 0, 3, 2, 2), (1, 0, 1)), ((0, 0, 0, 1, 1), (0, 0, 1)),
    ((2, 3, 4, 0, 0), (1, 2, 0, 0)),
    ((1, 2, 3, 4, 5, 0), (1, 2, 0)), ((1, 2, 3, 4, 5, 0), (1, 0, 0, 3)), (ONE, EACH_ITS_OWN),
    (ONE, LENGTHS_THAT_DIVIDE),
    ((1, 0), LENGTHS_THAT_DIVIDE), ((1, 0, 0), ALIKE_RINGS_ALIKE_TREES), ((0, 0, 1), BUSHES), ((0, 0), STAR),
    (EACH_ITS_OWN, ONE), (ONE_RING, ONE), (LONG_WAY, (0, 0)), (STAR, (0, 0)), (PERIOD_THIRTY, (0, 1)),
]


def rings_of(chart):
    return sorted({plain_ring_of(chart, place) for place in range(len(chart))})


def not_led(chart, other):
    return [ring for ring in rings_of(chart) if all(len(ring) % len(around) for around in rings_of(other))]


class FitsTest(unittest.TestCase):
    def test_fits_in_their_sequence(self):
        for chart, other in PAIRS:
            found = plain_fits(chart, other)
            self.assertEqual(fit_count(chart, other), len(found), (chart, other))
            self.assertEqual(all_fits(chart, other), list(found), (chart, other))
            for number in sorted({0, 1, len(found) // 2, len(found) - 1}):
                if 0 <= number < len(found):
                    self.assertEqual(nth_fit(chart, other, number), found[number], (chart, other))
                    self.assertEqual(fit_number(chart, other, found[number]), number, (chart, other))
            for number in (len(found), len(found) + 1, NINETY_DIGITS):
                self.assertIsNone(nth_fit(chart, other, number), (chart, other))

    def test_first_fit(self):
        for chart, other in PAIRS:
            found = plain_fits(chart, other)
            if found:
                self.assertEqual(first_fit(chart, other), found[0], (chart, other))
            else:
                ring = not_led(chart, other)[0]
                self.assertEqual(raised_by(self, first_fit, chart, other), (NoFit, {"ring": ring}), (chart, other))

    def test_rings_that_are_not_led(self):
        self.assertEqual(raised_by(self, first_fit, PERIOD_THIRTY, (1, 0)), (NoFit, {"ring": (2, 3, 4)}))
        self.assertEqual(raised_by(self, first_fit, PERIOD_THIRTY, (1, 2, 0)), (NoFit, {"ring": (0, 1)}))
        self.assertEqual(raised_by(self, first_fit, PERIOD_THIRTY, (1, 0, 3, 4, 2)), (NoFit, {"ring": (5, 6, 7, 8, 9)}))
        self.assertEqual(raised_by(self, first_fit, LENGTHS_THAT_DIVIDE, (1, 0)), (NoFit, {"ring": (0,)}))
        self.assertEqual(raised_by(self, first_fit, ONE, ONE_RING), (NoFit, {"ring": (0,)}))
        self.assertEqual([fit_count(ONE, ONE_RING), nth_fit(ONE, ONE_RING, 0), all_fits(ONE, ONE_RING)], [0, None, []])
        self.assertEqual(first_fit(ONE_RING, (1, 0)), (0, 1) * 5)

    def test_is_fit(self):
        for chart, other in PAIRS[::9]:
            found = plain_fits(chart, other)
            for row in itertools.islice(itertools.product(range(len(other)), repeat=len(chart)), 300):
                self.assertIs(is_fit(chart, other, row), row in found, (chart, other, row))

    def test_is_fit_of_other_values(self):
        self.assertIs(is_fit(EAR, OTHER, FIT), True)
        for value in NOT_FITS + NOT_CHARTS:
            self.assertIs(is_fit(EAR, OTHER, value), False, value)
        self.assertEqual([is_fit(ONE, ONE, (0,)), is_fit(ONE, ONE, (1,)), is_fit(ONE, ONE, ())], [True, False, False])
        self.assertEqual([is_fit(ONE, ONE, [0]), is_fit(ONE, ONE, (False,)), is_fit(ONE, ONE, (0, 0))], [False] * 3)
        # Wrong at the last place alone.
        self.assertEqual([is_fit(LONG_WAY, LONG_WAY, (0,) * 9 + (k,)) for k in (0, 1, 2)], [True, True, False])
        self.assertEqual([is_fit(STAR, (0, 0, 1), (1,) * 7 + (0,) + (1, k)) for k in (0, 1, 2)], [True, True, False])

    def test_charts_of_unlike_numbers_of_places(self):
        self.assertEqual([fit_count(ONE, EACH_ITS_OWN), fit_count(EACH_ITS_OWN, ONE)], [10, 1])
        self.assertEqual([all_fits(ONE, BUSHES), first_fit(ONE_RING, ONE)], [[(7,)], (0,) * 10])
        self.assertEqual(all_fits((1, 0), LENGTHS_THAT_DIVIDE), [(0, 0), (1, 2), (2, 1), (7, 8), (8, 7)])
        self.assertEqual(all_fits((0, 0), LENGTHS_THAT_DIVIDE), [(0, 0)])

    def test_a_thousand_fits_and_more(self):
        found = told_in_time(self, all_fits, (0, 1, 2), EACH_ITS_OWN)
        self.assertEqual(found, list(itertools.product(range(10), repeat=3)))
        self.assertEqual(len(told_in_time(self, all_fits, (0, 0, 0, 0), STAR)), 1000)
        self.assertEqual(len(told_in_time(self, all_fits, (0,) * 10, (1, 1))), 512)
        # The last piece has one fit to each of seven places that nothing else leads to, and two to the eighth place.
        self.assertEqual(len(told_in_time(self, all_fits, (0, 1, 2, 2, 3), (0, 1, 2, 3, 4, 5, 6, 7, 7))), 8 * 8 * 9)
        for chart, other, count in (
            (EACH_ITS_OWN, (0, 1), 1024), ((0, 1, 2, 3), EACH_ITS_OWN, 10 ** 4), (STAR, STAR, 10 ** 9),
            ((0, 1, 1, 3), (0, 1, 1, 3, 4, 5, 6, 7, 8), 8 * 9 * 8), (EACH_ITS_OWN, EACH_ITS_OWN, 10 ** 10),
        ):
            self.assertEqual(fit_count(chart, other), count)
            if count > 1000:
                self.assertEqual(raised_by(self, all_fits, chart, other), (TooMany, {"count": 1000}))
            else:
                self.assertEqual(len(all_fits(chart, other)), count)

    def test_all_fits_of_ten_places(self):
        for chart, other in itertools.product(CHARTS_OF_TEN, repeat=2):
            count = told_in_time(self, fit_count, chart, other)
            if count <= 1000:
                found = told_in_time(self, all_fits, chart, other)
                self.assertEqual([len(found), found], [count, sorted(set(found))], (chart, other))
                self.assertTrue(all(leads(chart, other, fit) for fit in found), (chart, other))
            else:
                self.assertEqual(raised_by(self, all_fits, chart, other), (TooMany, {"count": 1000}))

    def test_indexes_of_ten_places(self):
        for chart, other in itertools.product(CHARTS_OF_TEN, repeat=2):
            count = fit_count(chart, other)
            for number in sorted({0, count // 3, count - 1}):
                if 0 <= number < count:
                    fit = told_in_time(self, nth_fit, chart, other, number)
                    self.assertTrue(leads(chart, other, fit), (chart, other, number))
                    self.assertEqual(told_in_time(self, fit_number, chart, other, fit), number, (chart, other))
            self.assertIsNone(told_in_time(self, nth_fit, chart, other, count))
        self.assertEqual(nth_fit(EACH_ITS_OWN, EACH_ITS_OWN, 3018492756), (3, 0, 1, 8, 4, 9, 2, 7, 5, 6))
        self.assertEqual(fit_number(EACH_ITS_OWN, EACH_ITS_OWN, (9,) * 10), 10 ** 10 - 1)

    def test_errors(self):
        for function in (is_fit, nth_fit, fit_number, fit_count, first_fit, all_fits):
            further = [0] if function in (is_fit, nth_fit, fit_number) else []
            for wrong in NOT_CHARTS:
                self.assertEqual(raised_by(self, function, wrong, 7, *further)[0], InvalidChart, wrong)
                self.assertEqual(raised_by(self, function, ONE, wrong, *further)[0], InvalidChart, wrong)
        for wrong in NOT_NUMBERS:
            self.assertEqual(raised_by(self, nth_fit, EAR, OTHER, wrong)[0], InvalidCount, wrong)
            # No fit is there at all, but the number is looked at ahead of that.
            self.assertEqual(raised_by(self, nth_fit, ONE, ONE_RING, wrong)[0], InvalidCount, wrong)
        for function in (fit_number, fit_image, fit_split):
            for wrong in NOT_FITS:
                self.assertEqual(raised_by(self, function, EAR, OTHER, wrong)[0], InvalidFit, wrong)
            self.assertEqual(raised_by(self, function, ONE, ONE_RING, (0,))[0], InvalidFit)
            self.assertEqual(raised_by(self, function, LONG_WAY, LONG_WAY, (0,) * 9 + (2,))[0], InvalidFit)
            self.assertEqual(raised_by(self, function, LONG_WAY, ONE, (0,) * 9)[0], InvalidFit)
            self.assertEqual(raised_by(self, function, LONG_WAY, ONE, (0,) * 11)[0], InvalidFit)


class WishesTest(unittest.TestCase):
    def some_wishes(self, chart, other):
        pairs = list(itertools.product(range(len(chart)), range(len(other))))
        two = [wishes for wishes in itertools.combinations(pairs, 2) if wishes[0][0] != wishes[1][0]]
        all_at_once = [tuple((x, (x + k) % len(other)) for x in range(len(chart))) for k in (0, 1)]
        return [()] + [(pair,) for pair in pairs] + two[::5] + all_at_once

    def test_wishes(self):
        for chart, other in PAIRS[::4]:
            for wishes in self.some_wishes(chart, other):
                found = [fit for fit in plain_fits(chart, other) if all(fit[x] == y for x, y in wishes)]
                self.assertEqual(wished_count(chart, other, wishes), len(found), (chart, other, wishes))
                self.assertEqual(
                    first_wished(chart, other, wishes), found[0] if found else None, (chart, other, wishes)
                )

    def test_edges(self):
        self.assertEqual(wished_count(EACH_ITS_OWN, EACH_ITS_OWN, ((2, 7), (9, 9))), 10 ** 8)
        self.assertEqual(first_wished(EACH_ITS_OWN, EACH_ITS_OWN, ((2, 7), (9, 9))), (0, 0, 7, 0, 0, 0, 0, 0, 0, 9))
        self.assertEqual([wished_count(ONE, EACH_ITS_OWN, ((0, 9),)), first_wished(ONE, (0, 1), ((0, 1),))], [1, (1,)])
        # Wishes that nothing fulfils, of one place, of two, of charts without a fit.
        self.assertEqual([wished_count(STAR, STAR, ((7, 0),)), first_wished(STAR, STAR, ((7, 0),))], [0, None])
        self.assertEqual(first_wished(ONE_RING, ONE_RING, ((0, 1), (1, 1))), None)
        self.assertEqual([wished_count(ONE, ONE_RING, ()), first_wished(ONE, ONE_RING, ())], [0, None])
        self.assertEqual(first_wished(ONE_RING, ONE_RING, ((3, 1),)), (8, 9, 0, 1, 2, 3, 4, 5, 6, 7))
        for chart, other in itertools.product(CHARTS_OF_TEN, repeat=2):
            for wishes in ((), ((3, 2),), ((0, 5), (9, 8))):
                fit = told_in_time(self, first_wished, chart, other, wishes)
                count = told_in_time(self, wished_count, chart, other, wishes)
                self.assertEqual(fit is None, count == 0)
                if fit is not None:
                    self.assertTrue(leads(chart, other, fit) and all(fit[x] == y for x, y in wishes))

    def test_wrong_wishes(self):
        for function in (wished_count, first_wished):
            for wrong in NOT_WISHES:
                self.assertEqual(raised_by(self, function, EAR, OTHER, wrong)[0], InvalidWishes, wrong)
            # A place beyond the one chart, though not beyond the other one.
            self.assertEqual(raised_by(self, function, ONE, EAR, ((1, 0),))[0], InvalidWishes)
            self.assertEqual(raised_by(self, function, EAR, ONE, ((0, 1),))[0], InvalidWishes)
            self.assertEqual(raised_by(self, function, EAR, ONE_RING, ((0, 10),))[0], InvalidWishes)
            self.assertEqual(raised_by(self, function, (4,), ONE, ((0, 1),))[0], InvalidChart)
            self.assertEqual(raised_by(self, function, ONE, (1,), ((0, 1),))[0], InvalidChart)
        self.assertEqual(wished_count(EAR, ONE_RING, ((0, 9),)), 0)
        self.assertEqual(wished_count(ONE_RING, (1, 0), ((9, 1),)), 1)


class ImageTest(unittest.TestCase):
    def test_image_and_split(self):
        for chart, other in PAIRS[::3]:
            for fit in plain_fits(chart, other)[:40]:
                image = tuple(sorted(set(fit)))
                split = sorted(tuple(x for x in range(len(chart)) if fit[x] == y) for y in image)
                self.assertEqual(fit_image(chart, other, fit), image, (chart, other, fit))
                self.assertEqual(fit_split(chart, other, fit), tuple(split), (chart, other, fit))

    def test_onto_count(self):
        for chart, other in PAIRS:
            found = [fit for fit in plain_fits(chart, other) if len(set(fit)) == len(other)]
            self.assertEqual(onto_count(chart, other), len(found), (chart, other))

    def test_edges(self):
        self.assertEqual([onto_count(ONE, ONE), onto_count(ONE, (0, 1)), onto_count((0, 1), ONE)], [1, 0, 1])
        self.assertEqual(onto_count(EACH_ITS_OWN, EACH_ITS_OWN), math.factorial(10))
        self.assertEqual([onto_count(STAR, STAR), onto_count(LONG_WAY, LONG_WAY)], [math.factorial(9), 1])
        self.assertEqual([onto_count(EACH_ITS_OWN, (0, 1)), onto_count(EACH_ITS_OWN, (0, 1, 2))], [1022, 55980])
        self.assertEqual([onto_count(ONE_RING, (1, 0)), onto_count(PERIOD_THIRTY, (0, 1))], [2, 6])
        self.assertEqual([fit_image(STAR, ONE, (0,) * 10), fit_split(STAR, ONE, (0,) * 10)], [(0,), (EACH_ITS_OWN,)])
        self.assertEqual(fit_split(ONE_RING, (1, 0), (1, 0) * 5), ((0, 2, 4, 6, 8), (1, 3, 5, 7, 9)))
        for chart, other in itertools.product(CHARTS_OF_TEN, repeat=2):
            told_in_time(self, onto_count, chart, other)

    def test_errors(self):
        for wrong in NOT_CHARTS:
            self.assertEqual(raised_by(self, onto_count, wrong, ONE)[0], InvalidChart, wrong)
            self.assertEqual(raised_by(self, onto_count, ONE, wrong)[0], InvalidChart, wrong)


class CoreTest(unittest.TestCase):
    def lots_to_lie_in(self, chart):
        """The lots that the chart can be laid into, found among the fits into itself."""
        images = {tuple(sorted(set(fit))) for fit in plain_fits(chart, chart)}
        kept = [lot for lot in all_lots(len(chart))[1:] if is_plainly_kept(chart, lot)]
        return [lot for lot in kept if any(set(image) <= set(lot) for image in images)]

    def test_can_lay_and_core(self):
        for chart in SMALL_CHARTS + CHARTS_OF_FOUR + [
            (1, 0, 3, 2, 2), (1, 2, 0, 4, 3), (0, 2, 1, 2, 3), (3, 3, 3, 4, 3)
        ]:
            found = self.lots_to_lie_in(chart)
            self.assertEqual(core(chart), found[0], chart)
            for lot in all_lots(len(chart)):
                if lot != () and is_plainly_kept(chart, lot):
                    self.assertIs(can_lay(chart, lot), lot in found, (chart, lot))
                else:
                    self.assertEqual(raised_by(self, can_lay, chart, lot)[0], InvalidLot, (chart, lot))

    def test_edges(self):
        self.assertEqual([core(ONE), core(EACH_ITS_OWN), core(STAR), core(ONE_RING)], [(0,), (0,), (7,), EACH_ITS_OWN])
        self.assertEqual([core(PERIOD_THIRTY), core(LENGTHS_THAT_DIVIDE)], [EACH_ITS_OWN, (0,)])
        self.assertEqual([core(THREE_ALIKE_RINGS), core(ALIKE_RINGS_ALIKE_TREES)], [(0, 1, 2), (0, 1)])
        self.assertEqual([core(LONG_WAY_TO_TWO), core((1, 0, 3, 4, 5, 2, 7, 8, 6))], [(8, 9), (0, 1, 6, 7, 8)])
        self.assertEqual([can_lay(PERIOD_THIRTY, (0, 1)), can_lay(PERIOD_THIRTY, EACH_ITS_OWN)], [False, True])
        self.assertEqual([can_lay(LENGTHS_THAT_DIVIDE, (0,)), can_lay(LENGTHS_THAT_DIVIDE, (1, 2))], [True, False])
        self.assertEqual([can_lay(THREE_ALIKE_RINGS, (6, 7, 8)), can_lay(BUSHES, core(BUSHES))], [True, True])

    def test_ten_places(self):
        for chart in LARGE_CHARTS:
            found = told_in_time(self, core, chart)
            self.assertTrue(told_in_time(self, can_lay, chart, found), chart)
            for lot in all_lots(len(chart))[1:]:
                if is_plainly_kept(chart, lot) and (len(lot), lot) < (len(found), found):
                    self.assertIs(can_lay(chart, lot), False, (chart, lot))

    def test_go_both_ways(self):
        for chart, other in PAIRS:
            wanted = not not_led(chart, other) and not not_led(other, chart)
            self.assertIs(go_both_ways(chart, other), wanted, (chart, other))
            if len(chart) < 4 and len(other) < 4:
                self.assertEqual(wanted, bool(plain_fits(chart, other)) and bool(plain_fits(other, chart)))
        self.assertEqual([go_both_ways(STAR, EACH_ITS_OWN), go_both_ways(ONE_RING, (1, 0))], [True, False])
        self.assertEqual([go_both_ways(LONG_WAY_TO_TWO, (1, 0)), go_both_ways(ONE, ONE)], [True, True])
        for chart, other in itertools.product(CHARTS_OF_TEN, repeat=2):
            told_in_time(self, go_both_ways, chart, other)

    def test_errors(self):
        for wrong in NOT_CHARTS:
            self.assertEqual(raised_by(self, can_lay, wrong, ())[0], InvalidChart, wrong)
            self.assertEqual(raised_by(self, core, wrong)[0], InvalidChart, wrong)
            self.assertEqual(raised_by(self, go_both_ways, wrong, ONE)[0], InvalidChart, wrong)
            self.assertEqual(raised_by(self, go_both_ways, ONE, wrong)[0], InvalidChart, wrong)
        for wrong in NOT_LOTS + [(), (0,), (0, 1), (1,), (0, 3), (0, 1, 3)]:
            self.assertEqual(raised_by(self, can_lay, EAR, wrong)[0], InvalidLot, wrong)


if __name__ == "__main__":
    unittest.main()
