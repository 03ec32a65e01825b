"""Points [32] and [33]: charts of which only clues are told."""

import itertools
import random
import unittest

from everynext.clues import (
    clash, depth_bounds, is_bar, is_sure, may_be, may_be_on_rings, meeting_count, meets, nth_meeting, spare_clues,
    sure_nexts, sure_on_rings, tells_all,
)
from everynext.errors import Clash, InvalidChart, InvalidClues, InvalidCount, InvalidPlace, TooMany
from tests.helpers import (
    CHARTS_OF_TEN, EACH_ITS_OWN, LARGE_CHARTS, NINETY_DIGITS, NOT_CHARTS, NOT_CLUES, NOT_CLUES_OF_ONE, NOT_NUMBERS,
    NOT_PLACES, ONE, ONE_RING, SMALL_CHARTS, STAR, is_plainly_on_ring, mixed_chart, not_within, plain_depth,
    plain_meeting, plainly_meets, raised_by, told_in_time, walked,
)

# What each of these functions is asked for beside the number of places and the clues.
FURTHER = {
    clash: (), meeting_count: (), nth_meeting: (0,), is_sure: ((0, 1, 0),), sure_nexts: (), may_be: (0, 1),
    sure_on_rings: (), may_be_on_rings: (), depth_bounds: (0,), spare_clues: (), tells_all: (),
}
ASKS_FOR_NO_CLASH = (
    is_sure, sure_nexts, may_be, sure_on_rings, may_be_on_rings, depth_bounds, spare_clues, tells_all,
)
NUMBERS = (0, 1, 1, 1, 2, 2, 3, 4, 5, 7, 12, 60, 61, 2520, 10 ** 40, NINETY_DIGITS)


def drawn_clues(count, draws, seed):
    """Some clues: of one chart, with one wrong among them, or of no chart in particular."""
    drawn = random.Random(seed)
    chart = tuple(drawn.randrange(count) for _ in range(count))
    told = set()
    for _ in range(draws):
        place, number = drawn.randrange(count), drawn.choice(NUMBERS)
        told.add((place, number, walked(chart, place, number)))
    if seed % 3 == 0 and told:
        place, number, goal = sorted(told)[-1]
        told = told - {(place, number, goal)} | {(place, number, (goal + 1) % count)}
    if seed % 3 == 1:
        told = {(place, number, drawn.randrange(count)) for place, number, _ in told}
    return tuple(sorted(told))


SOME_CLUES = [(count, drawn_clues(count, seed % 6, seed)) for count in (1, 2, 3, 4) for seed in range(12 * count)] + [
    (5, drawn_clues(5, seed % 5 + 1, seed)) for seed in range(6)
]
# Six places and as many clues as may be, of one chart, and others.
TWENTY = [
    tuple((place, number, walked(chart, place, number)) for place in range(5) for number in (7, 60, 77, NINETY_DIGITS))
    for chart in ((1, 2, 3, 4, 5, 0), (0, 0, 1, 2, 3, 4), (5,) * 6, (0, 1, 2, 3, 4, 5), (1, 0, 3, 2, 3, 3))
] + [tuple(sorted({(place, 60 * k, place) for place in range(6) for k in range(4)}))[:20]] + [
    tuple((place, number, 0) for place in range(1, 6) for number in (59, 60, 61, 2520)),
    tuple((place, number, (place + number) % 6) for place in range(5) for number in (6, 13, 26, 87)),
    tuple((place, number, 5 - place) for place in range(4) for number in (9, 20, 33, 42, NINETY_DIGITS)),
]
ENOUGH = ((0, 1, 1), (0, 3, 0))


def plain_clash(count, clues):
    left = list(clues)
    if plain_meeting(count, left):
        return None
    for clue in clues:
        others = [other for other in left if other != clue]
        if not plain_meeting(count, others):
            left = others
    return tuple(left)


def is_plain_bar(count, clues):
    others = [clues[:k] + clues[k + 1:] for k in range(len(clues))]
    return not plain_meeting(count, clues) and all(plain_meeting(count, rest) for rest in others)


class MeetingTest(unittest.TestCase):
    def test_meets(self):
        for chart in SMALL_CHARTS:
            count = len(chart)
            for place, goal in itertools.product(range(count), repeat=2):
                for number in (0, 1, 2, 3, 9, 10 ** 40 + 1):
                    wanted = walked(chart, place, number) == goal
                    self.assertIs(meets(chart, ((place, number, goal),)), wanted, (chart, place, number, goal))
        for count, clues in SOME_CLUES:
            for chart in (mixed_chart(count, seed) for seed in range(5)):
                self.assertIs(meets(chart, clues), plainly_meets(chart, clues), (chart, clues))

    def test_meets_of_ten_places(self):
        for chart in LARGE_CHARTS:
            clues = tuple((0, number, walked(chart, 0, number)) for number in range(19))
            clues = clues + ((len(chart) - 1, NINETY_DIGITS, walked(chart, len(chart) - 1, NINETY_DIGITS)),)
            self.assertIs(told_in_time(self, meets, chart, clues), True, chart)
            wrong = clues[:-1] + ((len(chart) - 1, NINETY_DIGITS + 1, (clues[-1][2] + 1) % len(chart)),)
            self.assertIs(meets(chart, wrong), plainly_meets(chart, wrong), chart)
            self.assertIs(meets(chart, ()), True)
        self.assertEqual([meets(ONE, ((0, 0, 0), (0, 10 ** 89, 0))), meets(STAR, ((7, 0, 0),))], [True, False])

    def test_counts(self):
        for count, clues in SOME_CLUES:
            found = plain_meeting(count, clues)
            self.assertEqual(meeting_count(count, clues), len(found), (count, clues))
            for number in sorted({0, 1, len(found) // 2, len(found) - 1}):
                if 0 <= number < len(found):
                    self.assertEqual(nth_meeting(count, clues, number), found[number], (count, clues))
            for number in (len(found), len(found) + 1, NINETY_DIGITS):
                self.assertIsNone(nth_meeting(count, clues, number), (count, clues))

    def test_edges(self):
        self.assertEqual([meeting_count(1, ()), nth_meeting(1, (), 0), nth_meeting(1, (), 1)], [1, (0,), None])
        self.assertEqual([meeting_count(1, ((0, NINETY_DIGITS, 0),)), meeting_count(6, ())], [1, 6 ** 6])
        self.assertEqual([nth_meeting(6, (), 0), nth_meeting(6, (), 6 ** 6 - 1)], [(0,) * 6, (5,) * 6])
        self.assertEqual([nth_meeting(6, (), 44790), nth_meeting(6, (), 6 ** 6)], [(5, 4, 3, 2, 1, 0), None])
        self.assertEqual([meeting_count(6, ((3, 0, 3),)), meeting_count(6, ((3, 0, 4),))], [6 ** 6, 0])
        self.assertEqual(
            [meeting_count(6, ((3, 1, 4),)), nth_meeting(6, ((3, 1, 4),), 6)], [6 ** 5, (0, 0, 0, 4, 1, 0)]
        )
        self.assertEqual(nth_meeting(6, ((0, 60, 1), (1, 0, 2)), 0), None)

    def test_six_places_and_twenty_clues(self):
        for clues in TWENTY:
            self.assertEqual(len(clues), 20)
            found = [chart for chart in plain_meeting(6, clues[::5]) if plainly_meets(chart, clues)]
            self.assertEqual(told_in_time(self, meeting_count, 6, clues), len(found), clues)
            for number in {0, len(found) // 2, len(found) - 1} - {-1}:
                wanted = found[number] if found else None
                self.assertEqual(told_in_time(self, nth_meeting, 6, clues, number), wanted)

    def test_errors(self):
        for wrong in NOT_CLUES:
            self.assertEqual(raised_by(self, meets, (1, 2, 1, 2), wrong)[0], InvalidClues, wrong)
        for wrong in NOT_CHARTS:
            self.assertEqual(raised_by(self, meets, wrong, 0)[0], InvalidChart, wrong)
        # Clues for another number of places.
        self.assertEqual(raised_by(self, meets, ONE, ((0, 1, 1),))[0], InvalidClues)
        self.assertEqual(raised_by(self, meets, ONE_RING, ((10, 1, 1),))[0], InvalidClues)
        self.assertIs(meets(ONE_RING, tuple((0, number, number) for number in range(10))), True)
        self.assertEqual(raised_by(self, meets, EACH_ITS_OWN, tuple((0, k, 0) for k in range(21)))[0], InvalidClues)
        self.assertIs(meets(EACH_ITS_OWN, tuple((0, k, 0) for k in range(20))), True)


class ClashTest(unittest.TestCase):
    def test_clash(self):
        for count, clues in SOME_CLUES:
            self.assertEqual(clash(count, clues), plain_clash(count, clues), (count, clues))

    def test_is_bar(self):
        for count, clues in SOME_CLUES:
            self.assertIs(is_bar(count, clues), is_plain_bar(count, clues), (count, clues))
            bar = clash(count, clues)
            if bar is not None:
                self.assertIs(is_bar(count, bar), True, (count, bar))
                self.assertIs(is_bar(count, bar[1:]), False, (count, bar))

    def test_bars_of_one_two_three_and_more(self):
        for count, bar in (
            (2, ((0, 0, 1),)), (6, ((5, 0, 4),)), (2, ((0, 1, 0), (0, 1, 1))), (2, ENOUGH),
            (6, ((0, 2, 0), (0, NINETY_DIGITS // 2 * 2, 1))), (3, ((0, 1, 1), (0, 2, 2), (1, 1, 0))),
            (3, ((0, 1, 1), (0, 3, 0), (1, 1, 1))), (3, ((0, 3, 0), (0, 60, 0), (0, 61, 1))),
            (3, ((0, 60, 0), (1, 60, 1), (2, 6, 0))), (4, ((0, 1, 1), (0, 4, 0), (1, 1, 2), (2, 1, 2))),
            (6, tuple((place, 60, place) for place in range(5)) + ((5, 6, 0),)),
        ):
            told = is_plain_bar(count, bar) if count < 6 else clash(count, bar) == bar
            self.assertIs(is_bar(count, bar), told, bar)
            if told:
                self.assertEqual(clash(count, bar), bar)
        self.assertEqual([is_bar(2, ((0, 0, 1),)), is_bar(2, ENOUGH)], [True, True])
        self.assertIs(is_bar(4, ((0, 1, 1), (0, 4, 0), (1, 1, 2), (2, 1, 2))), True)
        self.assertIs(is_bar(3, ((0, 1, 1), (0, 2, 2), (1, 1, 0))), True)

    def test_which_bar_is_left(self):
        # Each two of the clues clash, and the first one goes first.
        self.assertEqual(clash(3, ((0, 1, 0), (0, 1, 1), (0, 1, 2))), ((0, 1, 1), (0, 1, 2)))
        # What the first clue and the third one say does not agree; the others have no part in this.
        self.assertEqual(clash(2, ((0, 1, 0), (0, 2, 0), (0, 3, 1), (1, 0, 1))), ((0, 1, 0), (0, 3, 1)))
        self.assertEqual(clash(3, ((0, 1, 0), (1, 0, 2), (2, 0, 1))), ((2, 0, 1),))
        self.assertEqual([clash(1, ()), clash(6, ()), clash(1, ((0, 0, 0), (0, 1, 0)))], [None, None, None])

    def test_is_bar_of_other_values(self):
        for value in NOT_CLUES + NOT_CLUES_OF_ONE + [(), ((0, 1, 1),), ((0, 1, 1), (0, 2, 2))]:
            self.assertIs(is_bar(4, value), False, value)
        self.assertEqual([is_bar(1, ()), is_bar(1, ((0, 0, 0),)), is_bar(1, ((0, 0, 1),))], [False, False, False])
        self.assertEqual([is_bar(3, [(0, 0, 1)]), is_bar(3, ([0, 0, 1],)), is_bar(3, ((0, False, 1),))], [False] * 3)
        self.assertEqual([is_bar(3, ((0, 0, 3),)), is_bar(4, ((0, 0, 3),))], [False, True])

    def test_six_places_and_twenty_clues(self):
        for clues in TWENTY:
            for further in ((), ((5, 77, 5),), ((5, 1, 4),)):
                more = tuple(sorted(clues[1:] + further)) if further else clues
                bar = told_in_time(self, clash, 6, more)
                self.assertIs(told_in_time(self, is_bar, 6, more), bar == more)
                if bar is not None:
                    self.assertEqual(meeting_count(6, bar), 0)
                    for clue in bar:
                        self.assertGreater(meeting_count(6, tuple(other for other in bar if other != clue)), 0)


class SureTest(unittest.TestCase):
    def assert_sure(self, count, clues, found):
        places = range(count)
        nexts = [{chart[place] for chart in found} for place in places]
        wanted = tuple(min(goals) if len(goals) == 1 else None for goals in nexts)
        self.assertEqual(sure_nexts(count, clues), wanted, (count, clues))
        ringed = [[is_plainly_on_ring(chart, place) for chart in found] for place in places]
        self.assertEqual(sure_on_rings(count, clues), tuple(x for x in places if all(ringed[x])), (count, clues))
        self.assertEqual(may_be_on_rings(count, clues), tuple(x for x in places if any(ringed[x])), (count, clues))
        for place in places:
            depths = [plain_depth(chart, place) for chart in found]
            self.assertEqual(depth_bounds(count, clues, place), (min(depths), max(depths)), (count, clues, place))
            for number in (0, 1, 2, 5, NINETY_DIGITS):
                goals = {walked(chart, place, number) for chart in found}
                self.assertEqual(may_be(count, clues, place, number), tuple(sorted(goals)), (count, clues, place))
                for goal in places:
                    sure = goals == {goal}
                    self.assertIs(is_sure(count, clues, (place, number, goal)), sure, (count, clues, place, number))
        self.assertIs(tells_all(count, clues), len(found) == 1, (count, clues))
        spare = []
        for clue in clues:
            others = plain_meeting(count, [other for other in clues if other != clue])
            if all(plainly_meets(chart, [clue]) for chart in others):
                spare.append(clue)
        self.assertEqual(spare_clues(count, clues), spare, (count, clues))

    def test_clues(self):
        for count, clues in SOME_CLUES:
            found = plain_meeting(count, clues)
            if found:
                self.assert_sure(count, clues, found)

    def test_clues_that_clash(self):
        for count, clues in SOME_CLUES + [(2, ENOUGH), (6, ((0, 0, 1),)), (3, ((0, 1, 1), (0, 2, 2), (1, 1, 0)))]:
            if meeting_count(count, clues) == 0:
                error = Clash, {"clues": clash(count, clues)}
                for function in ASKS_FOR_NO_CLASH:
                    told = raised_by(self, function, count, clues, *FURTHER[function])
                    self.assertEqual(told, error, (function, count, clues))

    def test_edges(self):
        self.assertEqual([sure_nexts(1, ()), sure_on_rings(1, ()), may_be_on_rings(1, ())], [(0,), (0,), (0,)])
        self.assertEqual([depth_bounds(1, (), 0), tells_all(1, ()), spare_clues(1, ())], [(0, 0), True, []])
        self.assertEqual([is_sure(1, (), (0, NINETY_DIGITS, 0)), spare_clues(1, ((0, 7, 0),))], [True, [(0, 7, 0)]])
        self.assertEqual([sure_nexts(6, ()), sure_on_rings(6, ())], [(None,) * 6, ()])
        self.assertEqual([may_be_on_rings(6, ()), depth_bounds(6, (), 3)], [(0, 1, 2, 3, 4, 5), (0, 5)])
        self.assertEqual([may_be(6, (), 3, 0), may_be(6, (), 3, 10 ** 80)], [(3,), (0, 1, 2, 3, 4, 5)])
        self.assertEqual([is_sure(6, (), (3, 0, 3)), is_sure(6, (), (3, 0, 2)), tells_all(6, ())], [True, False, False])
        # Each of two clues is spare by the other one, and both are told.
        self.assertEqual(spare_clues(4, ((0, 12, 0), (0, 24, 0))), [(0, 12, 0), (0, 24, 0)])
        # A clue that is asked for does not count among the twenty.
        twenty = tuple((0, number, 0) for number in range(20))
        self.assertEqual([is_sure(6, twenty, (0, 20, 0)), is_sure(6, twenty, (1, 20, 0))], [True, False])

    def test_six_places_and_twenty_clues(self):
        for clues in TWENTY:
            for function in ASKS_FOR_NO_CLASH:
                if meeting_count(6, clues) > 0:
                    told_in_time(self, function, 6, clues, *FURTHER[function])
                else:
                    self.assertEqual(raised_by(self, function, 6, clues, *FURTHER[function])[0], Clash)
        self.assertEqual(sure_nexts(6, TWENTY[0]), (1, 2, 3, 4, 5, 0))
        self.assertEqual([tells_all(6, TWENTY[0]), sure_on_rings(6, TWENTY[0])], [True, (0, 1, 2, 3, 4, 5)])
        self.assertEqual([sure_on_rings(6, TWENTY[1]), depth_bounds(6, TWENTY[1], 4)], [(0,), (1, 5)])

    def test_wrong_arguments(self):
        for function, further in FURTHER.items():
            for wrong in not_within(10):
                self.assertEqual(raised_by(self, function, wrong, 7, *further)[0], InvalidCount, wrong)
            for wrong in NOT_CLUES:
                self.assertEqual(raised_by(self, function, 4, wrong, *further)[0], InvalidClues, (function, wrong))
        for wrong in NOT_CLUES_OF_ONE:
            self.assertEqual(raised_by(self, is_sure, 4, (), wrong)[0], InvalidClues, wrong)
        for wrong in NOT_PLACES:
            self.assertEqual(raised_by(self, may_be, 4, (), wrong, -1)[0], InvalidPlace, wrong)
            self.assertEqual(raised_by(self, depth_bounds, 4, (), wrong)[0], InvalidPlace, wrong)
        for wrong in NOT_NUMBERS:
            self.assertEqual(raised_by(self, may_be, 4, (), 3, wrong)[0], InvalidCount, wrong)
            self.assertEqual(raised_by(self, nth_meeting, 4, (), wrong)[0], InvalidCount, wrong)
        for wrong in not_within(10):
            self.assertEqual(raised_by(self, is_bar, wrong, ())[0], InvalidCount, wrong)

    def test_errors_ahead_of_clash(self):
        for function, wrong, error in (
            (is_sure, ((0, 1, 2),), InvalidClues), (may_be, (2, 1), InvalidPlace), (may_be, (0, -1), InvalidCount),
            (depth_bounds, (2,), InvalidPlace), (nth_meeting, (-1,), InvalidCount),
        ):
            self.assertEqual(raised_by(self, function, 2, ENOUGH, *wrong)[0], error, function)
        self.assertEqual(raised_by(self, sure_nexts, 2, ENOUGH + ((1, 1, 2),))[0], InvalidClues)

    def test_errors_ahead_of_too_many(self):
        for many in (7, 8, 9, 10):
            for function, further in FURTHER.items():
                # Clues that clash, and clues that do not.
                for clues in ((), ((0, 0, 1),), ENOUGH, ((many - 1, 1, 0),)):
                    told = raised_by(self, function, many, clues, *further)
                    self.assertEqual(told, (TooMany, {"count": 6}), (function, many))
                for wrong in (((many, 1, 0),), ((0, 1, many),), ENOUGH[::-1], [], None):
                    self.assertEqual(raised_by(self, function, many, wrong, *further)[0], InvalidClues, wrong)
            self.assertEqual(raised_by(self, is_sure, many, (), (0, 1, many))[0], InvalidClues)
            self.assertEqual(raised_by(self, may_be, many, (), many, 0)[0], InvalidPlace)
            self.assertEqual(raised_by(self, may_be, many, (), 0, -1)[0], InvalidCount)
            self.assertEqual(raised_by(self, depth_bounds, many, (), many)[0], InvalidPlace)
            self.assertEqual(raised_by(self, nth_meeting, many, (), True)[0], InvalidCount)
            for value in NOT_CLUES + [(), ENOUGH, ((0, 0, 1),)]:
                self.assertEqual(raised_by(self, is_bar, many, value), (TooMany, {"count": 6}), value)

    def test_six_and_seven_places(self):
        for function, further in FURTHER.items():
            told_in_time(self, function, 6, (), *further)
            self.assertEqual(raised_by(self, function, 7, (), *further)[0], TooMany)
            self.assertEqual(raised_by(self, function, 0, (), *further)[0], InvalidCount)
            self.assertEqual(raised_by(self, function, 11, (), *further)[0], InvalidCount)
        for chart in CHARTS_OF_TEN:
            self.assertIs(
                told_in_time(self, meets, chart, ((9, NINETY_DIGITS, walked(chart, 9, NINETY_DIGITS)),)), True
            )


if __name__ == "__main__":
    unittest.main()
