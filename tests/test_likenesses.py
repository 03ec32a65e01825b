"""Points [22] and [23], and the sentence about NotKept: parts and likenesses."""

import itertools
import unittest

from everynext.errors import InvalidChart, InvalidLot, InvalidLots, InvalidParts, InvalidPlace, NotKept, TooMany
from everynext.likenesses import (
    are_kept, chart_of, drawn_together, greatest_within, is_parts, joined_parts, kept_parts, kept_parts_count,
    least_together, lifted_parts, met_parts, parts_above, steps_apart, together_after,
)
from tests.helpers import (
    BUSHES, CHARTS, CHARTS_OF_FOUR, CHARTS_OF_TEN, EACH_ITS_OWN, EAR, FACT_CHARTS, LARGE_CHARTS, LENGTHS_THAT_DIVIDE,
    LONG_WAY, LONG_WAY_TO_TWO, NINETY_DIGITS, NOT_LOTS, NOT_LOTS_OF_LOTS, NOT_PARTS, ONE, ONE_RING, PERIOD_THIRTY,
    SMALL_CHARTS, STAR, all_kept_parts, all_lots, all_parts, are_plainly_kept, are_together, is_finer, mixed_chart,
    plain_step, raised_by, told_in_time, walked,
)

# Charts for which all parts are looked at.
LOOKED_AT = [chart for chart in FACT_CHARTS if len(chart) < 6] + [(1, 2, 3, 4, 5, 0), (1, 0, 0, 2, 5, 4)]
ALL_TOGETHER = (EACH_ITS_OWN,)
ALL_ALONE = tuple((place,) for place in range(10))
NEED_KEPT = (chart_of, parts_above)


def parts_by(labels):
    return tuple(sorted({tuple(x for x, held in enumerate(labels) if held == label) for label in labels}))


def plainly_lifted(parts, upper):
    return tuple(sorted(tuple(sorted(sum((parts[index] for index in lot), ()))) for lot in upper))


def some_parts(count):
    """All parts of up to five places, and some of more."""
    if count < 6:
        return all_parts(count)
    places = range(count)
    labels = [[0] * count, list(places), [x % 2 for x in places], [x % 3 for x in places], [x // 2 for x in places]]
    return [parts_by(row) for row in labels + [[x // 5 for x in places], [x == 4 for x in places]]]


def first_unlike(chart, parts):
    """The place that NotKept tells; None if the parts are kept."""
    for place in range(len(chart)):
        least = [part[0] for part in parts if place in part][0]
        if not are_together(parts, chart[place], chart[least]):
            return place
    return None


class PartsTest(unittest.TestCase):
    def test_is_parts(self):
        for chart in SMALL_CHARTS[:6] + [EAR, (0, 1, 2, 3)]:
            count = len(chart)
            lots = all_lots(count + 1)
            for size in range(4):
                for value in itertools.product(lots, repeat=size):
                    if len(value) < 3 or count < 3:
                        self.assertIs(is_parts(chart, value), value in all_parts(count), (chart, value))
            for value in all_parts(count):
                self.assertIs(is_parts(chart, value), True, value)
                self.assertIs(is_parts(chart, list(value)), False, value)
                self.assertIs(is_parts(chart, (list(value[0]),) + value[1:]), False, value)
                self.assertIs(is_parts(chart, value[1:]), False, value)
                self.assertIs(is_parts(chart, value + value[-1:]), False, value)
                self.assertIs(is_parts(chart, value[::-1]), len(value) == 1, value)

    def test_is_parts_of_other_values(self):
        for value in NOT_PARTS + NOT_LOTS:
            self.assertIs(is_parts(EAR, value), False, value)
        self.assertEqual([is_parts(ONE, ((0,),)), is_parts(ONE, ()), is_parts(STAR, ALL_TOGETHER)], [True, False, True])

    def test_are_kept(self):
        for chart in LOOKED_AT:
            for parts in all_parts(len(chart)):
                self.assertIs(are_kept(chart, parts), are_plainly_kept(chart, parts), (chart, parts))

    def test_wrong_parts(self):
        for parts in NOT_PARTS:
            for function in (are_kept, greatest_within, chart_of, parts_above):
                self.assertEqual(raised_by(self, function, EAR, parts)[0], InvalidParts, (function, parts))
            for function in (joined_parts, met_parts):
                self.assertEqual(raised_by(self, function, EAR, parts, None)[0], InvalidParts, (function, parts))
                self.assertEqual(raised_by(self, function, EAR, ((0, 1, 2, 3),), parts)[0], InvalidParts, parts)
            self.assertEqual(raised_by(self, steps_apart, EAR, parts, 9, 9)[0], InvalidParts, parts)


class LeastAndGreatestTest(unittest.TestCase):
    def test_least_together(self):
        for chart in LOOKED_AT:
            lots = all_lots(len(chart))
            pairs = list(zip(lots, lots[::-1]))
            for asked in [()] + [(lot,) for lot in lots] + pairs + [tuple(lots[-3:]), (lots[0],) * 20]:
                found = [
                    parts for parts in all_kept_parts(chart)
                    if all(any(set(lot) <= set(part) for part in parts) for lot in asked)
                ]
                told = least_together(chart, asked)
                self.assertIn(told, found, (chart, asked))
                self.assertTrue(all(is_finer(told, parts) for parts in found), (chart, asked))

    def test_least_together_edges(self):
        self.assertEqual([least_together(ONE, ()), least_together(STAR, ()), least_together(STAR, ((), (3,)))],
                         [((0,),), ALL_ALONE, ALL_ALONE])
        self.assertEqual(least_together(ONE_RING, ((0, 5),)), tuple((x, x + 5) for x in range(5)))
        self.assertEqual(least_together(ONE_RING, ((0, 5), (3, 7))), ALL_TOGETHER)
        self.assertEqual(least_together(ONE_RING, ((0, 4),)), ((0, 2, 4, 6, 8), (1, 3, 5, 7, 9)))
        self.assertEqual(least_together(ONE_RING, ((0, 4), (1, 4))), ALL_TOGETHER)
        self.assertEqual(least_together(LONG_WAY, ((0, 9),)), ALL_TOGETHER)
        self.assertEqual(least_together(LONG_WAY, ((1, 3),)), ((0, 1, 2, 3),) + ALL_ALONE[4:])
        self.assertEqual(least_together(PERIOD_THIRTY, ((0, 2),)), (EACH_ITS_OWN[:5],) + ALL_ALONE[5:])
        twenty = tuple((x % 9, x % 9 + 1) for x in range(20))
        self.assertEqual(told_in_time(self, least_together, EACH_ITS_OWN, twenty), ALL_TOGETHER)
        self.assertEqual(raised_by(self, least_together, EACH_ITS_OWN, twenty + ((),))[0], InvalidLots)
        for lots in NOT_LOTS_OF_LOTS:
            self.assertEqual(raised_by(self, least_together, EAR, lots)[0], InvalidLots, lots)

    def test_greatest_within(self):
        for chart in LOOKED_AT:
            for parts in all_parts(len(chart)):
                found = [finer for finer in all_kept_parts(chart) if is_finer(finer, parts)]
                told = greatest_within(chart, parts)
                self.assertIn(told, found, (chart, parts))
                self.assertTrue(all(is_finer(finer, told) for finer in found), (chart, parts))

    def test_greatest_within_edges(self):
        halves = (EACH_ITS_OWN[:5], EACH_ITS_OWN[5:])
        self.assertEqual(greatest_within(EACH_ITS_OWN, halves), halves)
        self.assertEqual(greatest_within(ONE_RING, halves), ALL_ALONE)
        self.assertEqual(greatest_within(STAR, halves), halves)
        self.assertEqual(greatest_within(LONG_WAY, (EACH_ITS_OWN[:9], (9,))), (EACH_ITS_OWN[:9], (9,)))
        self.assertEqual(greatest_within(LONG_WAY, ((0,), EACH_ITS_OWN[1:])), ALL_ALONE)
        for chart in CHARTS_OF_TEN:
            self.assertEqual([greatest_within(chart, ALL_TOGETHER), greatest_within(chart, ALL_ALONE)],
                             [ALL_TOGETHER, ALL_ALONE], chart)

    def test_steps_apart(self):
        for chart in LOOKED_AT + LARGE_CHARTS:
            for parts in some_parts(len(chart)):
                for x, y in itertools.product(range(len(chart)), repeat=2):
                    found = [k for k in range(101) if not are_together(parts, walked(chart, x, k), walked(chart, y, k))]
                    self.assertEqual(steps_apart(chart, parts, x, y), found[0] if found else None, (chart, parts, x, y))
                    if len(chart) > 5 and x != (y + 1) % len(chart):
                        break

    def test_steps_apart_edges(self):
        first_alone = ((0,), EACH_ITS_OWN[1:])
        found = [steps_apart(LONG_WAY, first_alone, x, y) for x, y in ((9, 8), (9, 9), (0, 1))]
        self.assertEqual(found, [8, None, 0])
        self.assertEqual(steps_apart(LONG_WAY, ALL_TOGETHER, 0, 9), None)
        self.assertEqual(steps_apart(ONE_RING, (EACH_ITS_OWN[:9], (9,)), 0, 1), 8)
        self.assertEqual(raised_by(self, steps_apart, EAR, ((0, 1, 2, 3),), 4, True)[0], InvalidPlace)
        self.assertEqual(raised_by(self, steps_apart, EAR, ((0, 1, 2, 3),), 3, True)[0], InvalidPlace)


class JoinedAndMetTest(unittest.TestCase):
    def test_joined_and_met(self):
        for chart in LOOKED_AT:
            count = len(chart)
            pairs = list(itertools.product(all_parts(count), repeat=2))
            for parts, others in pairs if count < 4 else pairs[::7]:
                coarser = [kept for kept in all_kept_parts(chart) if is_finer(parts, kept) and is_finer(others, kept)]
                told = joined_parts(chart, parts, others)
                self.assertIn(told, coarser, (chart, parts, others))
                self.assertTrue(all(is_finer(told, kept) for kept in coarser), (chart, parts, others))
                both = {tuple(sorted(set(one) & set(two))) for one in parts for two in others} - {()}
                self.assertEqual(met_parts(chart, parts, others), tuple(sorted(both)), (chart, parts, others))

    def test_edges(self):
        pairs = tuple((x, x + 1) for x in range(0, 10, 2))
        turned = ((0, 9),) + tuple((x, x + 1) for x in range(1, 9, 2))
        self.assertEqual([joined_parts(EACH_ITS_OWN, pairs, turned), met_parts(EACH_ITS_OWN, pairs, turned)],
                         [ALL_TOGETHER, ALL_ALONE])
        # What is handed in need not be kept.
        self.assertEqual(joined_parts(ONE_RING, pairs, pairs), ALL_TOGETHER)
        self.assertEqual(met_parts(ONE_RING, pairs, pairs), pairs)
        self.assertEqual(joined_parts(ONE, ((0,),), ((0,),)), ((0,),))
        self.assertEqual(joined_parts(STAR, ALL_ALONE, pairs[:3] + ALL_ALONE[6:]), pairs[:3] + ALL_ALONE[6:])


class TogetherTest(unittest.TestCase):
    def test_together_after(self):
        for chart in CHARTS + CHARTS_OF_FOUR[::3]:
            for number in (*range(11), NINETY_DIGITS):
                self.assertEqual(together_after(chart, number), parts_by(plain_step(chart, number)), (chart, number))

    def test_together_after_edges(self):
        self.assertEqual([together_after(STAR, 0), together_after(STAR, 1)], [ALL_ALONE, ALL_TOGETHER])
        self.assertEqual(together_after(ONE_RING, NINETY_DIGITS), ALL_ALONE)
        self.assertEqual(together_after(LONG_WAY, 9), ALL_TOGETHER)
        self.assertEqual(together_after(LONG_WAY, 8), (EACH_ITS_OWN[:9], (9,)))

    def test_drawn_together(self):
        for chart in CHARTS_OF_FOUR[::9] + [ONE_RING]:
            for lot in all_lots(len(chart))[1:]:
                wanted = parts_by([-1 if place in lot else place for place in range(len(chart))])
                self.assertEqual(drawn_together(chart, lot), wanted, (chart, lot))
            self.assertEqual(raised_by(self, drawn_together, chart, ())[0], InvalidLot)
        self.assertEqual([drawn_together(ONE, (0,)), drawn_together(STAR, EACH_ITS_OWN)], [((0,),), ALL_TOGETHER])
        for lot in NOT_LOTS:
            self.assertEqual(raised_by(self, drawn_together, EAR, lot)[0], InvalidLot, lot)


class ChartOfPartsTest(unittest.TestCase):
    def test_chart_of(self):
        for chart in LOOKED_AT:
            for parts in all_kept_parts(chart):
                wanted = [[index for index, part in enumerate(parts) if chart[lot[0]] in part][0] for lot in parts]
                self.assertEqual(chart_of(chart, parts), tuple(wanted), (chart, parts))

    def test_lifted_parts(self):
        for chart in LOOKED_AT:
            for parts in all_kept_parts(chart)[::1 if len(chart) < 4 else 3]:
                for upper in all_parts(len(parts)):
                    wanted = plainly_lifted(parts, upper)
                    self.assertEqual(lifted_parts(chart, parts, upper), wanted, (chart, parts, upper))

    def test_edges(self):
        self.assertEqual([chart_of(ONE_RING, ALL_TOGETHER), chart_of(ONE_RING, ALL_ALONE)], [(0,), ONE_RING])
        self.assertEqual(chart_of(ONE_RING, tuple((x, x + 5) for x in range(5))), (1, 2, 3, 4, 0))
        self.assertEqual(lifted_parts(STAR, ALL_ALONE, ALL_TOGETHER), ALL_TOGETHER)
        self.assertEqual(lifted_parts(STAR, ALL_TOGETHER, ((0,),)), ALL_TOGETHER)
        self.assertEqual(lifted_parts((0, 1, 2, 3), ((0, 3), (1,), (2,)), ((0, 2), (1,))), ((0, 2, 3), (1,)))
        self.assertEqual(lifted_parts((0, 1, 2, 3), ((0,), (1, 2, 3)), ((0, 1),)), ((0, 1, 2, 3),))

    def test_wrong_upper_parts(self):
        parts = ((0, 3), (1, 2))
        wrongs = [((0,),), ((1,),), ((0, 1), (2,)), ((0,), (1,), (2,)), ((1,), (0,)), [(0, 1)], ([0, 1],)]
        for upper in NOT_PARTS + wrongs:
            self.assertEqual(raised_by(self, lifted_parts, EAR, parts, upper)[0], InvalidParts, upper)
        # Ahead of what is told of parts that are not kept.
        self.assertEqual(raised_by(self, lifted_parts, EAR, ((0, 1), (2, 3)), ((0,),))[0], InvalidParts)
        self.assertEqual(raised_by(self, lifted_parts, EAR, ((0, 1), (2, 3)), ((0, 1),)), (NotKept, {"place": 1}))

    def test_not_kept(self):
        for chart in LOOKED_AT:
            for parts in all_parts(len(chart)):
                place = first_unlike(chart, parts)
                self.assertEqual(place is None, are_plainly_kept(chart, parts))
                if place is not None:
                    wanted = NotKept, {"place": place}
                    upper = (tuple(range(len(parts))),)
                    for function in NEED_KEPT:
                        self.assertEqual(raised_by(self, function, chart, parts), wanted, (chart, parts))
                    self.assertEqual(raised_by(self, lifted_parts, chart, parts, upper), wanted, (chart, parts))

    def test_not_kept_edges(self):
        # Place 3 is the least that fails, as the part of 0 comes first with 5.
        chart, parts = (0, 1, 2, 0, 1, 5), ((0, 5), (1, 3), (2, 4))
        self.assertEqual(raised_by(self, chart_of, chart, parts), (NotKept, {"place": 3}))
        self.assertEqual(raised_by(self, chart_of, ONE_RING, (EACH_ITS_OWN[:9], (9,))), (NotKept, {"place": 8}))
        self.assertEqual(raised_by(self, parts_above, EAR, ((0, 0),))[0], InvalidParts)
        self.assertEqual(raised_by(self, parts_above, (4,), ((0, 0),))[0], InvalidChart)


class AllPartsTest(unittest.TestCase):
    def test_kept_parts(self):
        for chart in LOOKED_AT:
            self.assertEqual(kept_parts(chart), list(all_kept_parts(chart)), chart)
            self.assertEqual(kept_parts_count(chart), len(all_kept_parts(chart)), chart)

    def test_seven_places_and_eight(self):
        self.assertEqual(told_in_time(self, kept_parts_count, (0, 1, 2, 3, 4, 5, 6)), 877)
        self.assertEqual(len(told_in_time(self, kept_parts, (6,) * 7)), 877)
        self.assertEqual(told_in_time(self, kept_parts_count, (1, 2, 3, 4, 5, 6, 0)), 2)
        for chart in [mixed_chart(7, seed) for seed in (1, 2, 3)]:
            self.assertEqual(told_in_time(self, kept_parts, chart), list(all_kept_parts(chart)), chart)
        for chart in [(0,) * 8, (0,) * 9] + CHARTS_OF_TEN:
            for function in (kept_parts, kept_parts_count):
                self.assertEqual(raised_by(self, function, chart), (TooMany, {"count": 7}))
        for function in (kept_parts, kept_parts_count):
            self.assertEqual(raised_by(self, function, (0,) * 11)[0], InvalidChart)

    def test_parts_above(self):
        for chart in LOOKED_AT:
            kept = all_kept_parts(chart)
            for parts in kept:
                coarser = [others for others in kept if is_finer(parts, others) and others != parts]
                wanted = [
                    others for others in coarser
                    if not any(is_finer(between, others) for between in coarser if between != others)
                ]
                self.assertEqual(parts_above(chart, parts), wanted, (chart, parts))

    def test_parts_above_edges(self):
        self.assertEqual([parts_above(ONE, ((0,),)), parts_above(STAR, ALL_TOGETHER)], [[], []])
        self.assertEqual(len(told_in_time(self, parts_above, EACH_ITS_OWN, ALL_ALONE)), 45)
        self.assertEqual(len(parts_above(STAR, ALL_ALONE)), 45)
        halves = ((0, 2, 4, 6, 8), (1, 3, 5, 7, 9))
        fifths = tuple((x, x + 5) for x in range(5))
        self.assertEqual(parts_above(ONE_RING, ALL_ALONE), [halves, fifths])
        self.assertEqual([parts_above(ONE_RING, halves), parts_above(ONE_RING, fifths)], [[ALL_TOGETHER]] * 2)
        self.assertEqual(parts_above(LONG_WAY, ALL_ALONE), [((0, 1),) + ALL_ALONE[2:]])
        for chart in CHARTS_OF_TEN + [BUSHES, LENGTHS_THAT_DIVIDE, LONG_WAY_TO_TWO]:
            for parts in (ALL_ALONE, ALL_TOGETHER, parts_by(plain_step(chart, 1)), parts_by(plain_step(chart, 10))):
                for upper in told_in_time(self, parts_above, chart, parts):
                    self.assertTrue(is_finer(parts, upper) and upper != parts and are_plainly_kept(chart, upper))


if __name__ == "__main__":
    unittest.main()
