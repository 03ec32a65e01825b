"""The facts J1 to J6, over all charts of up to four places and some clues for up to six."""

import itertools
import math
import random
import unittest

from everynext.charts import renamed, step
from everynext.clues import (
    clash, is_bar, is_sure, may_be, meeting_count, meets, nth_meeting, spare_clues, sure_nexts,
)
from tests.helpers import NINETY_DIGITS, all_charts, plain_meeting, some_rows


def drawn_clues(drawn, count):
    """Clues of some chart, or of none in particular."""
    chart = tuple(drawn.randrange(count) for _ in range(count))
    told = set()
    for _ in range(drawn.randrange(6)):
        place, number = drawn.randrange(count), drawn.choice((0, 1, 1, 2, 3, 6, 11, 60, NINETY_DIGITS))
        sure = drawn.randrange(5) > 0
        told.add((place, number, step(chart, number)[place] if sure else drawn.randrange(count)))
    return tuple(sorted(told))


def some_clues(most, times):
    drawn = random.Random(7)
    return [(count, drawn_clues(drawn, count)) for count in range(1, most + 1) for _ in range(times * count)]


def put_to(clues, *more):
    return tuple(sorted({*clues, *more}))


class FactsTest(unittest.TestCase):
    def test_j1_sure_clues_change_nothing(self):
        for count, clues in some_clues(6, 5):
            if clash(count, clues) is None:
                for place, number in itertools.product(range(count), (0, 1, 7, NINETY_DIGITS)):
                    for goal in may_be(count, clues, place, number):
                        more = put_to(clues, (place, number, goal))
                        same = meeting_count(count, more) == meeting_count(count, clues)
                        self.assertEqual(is_sure(count, clues, (place, number, goal)), same, (count, more))

    def test_j1_sure_as_all_others_clash(self):
        for count, clues in some_clues(4, 12):
            if clash(count, clues) is None:
                for place, number, goal in itertools.product(range(count), (1, 2, 5), range(count)):
                    others = [put_to(clues, (place, number, other)) for other in range(count) if other != goal]
                    wanted = all(clash(count, more) is not None for more in others)
                    self.assertEqual(is_sure(count, clues, (place, number, goal)), wanted, (count, clues))

    def test_j2_far_clues(self):
        for count in range(1, 7):
            turn = math.lcm(*range(1, count + 1))
            for x, y in itertools.product(range(count), repeat=2):
                for k in (count, count + 1, count + 7, 10 ** 40):
                    one, two = ((x, k, y),), ((x, k + turn, y),)
                    self.assertEqual(meeting_count(count, one), meeting_count(count, two), (count, one))
                    both = put_to(one, *two)
                    self.assertEqual(meeting_count(count, both), meeting_count(count, one), (count, one))
                    if count < 5:
                        self.assertEqual(plain_meeting(count, one), plain_meeting(count, two))

    def test_j3_shares(self):
        for count, clues in some_clues(6, 6):
            for place, number in itertools.product(range(count), (0, 1, 4, 61)):
                shares = [meeting_count(count, put_to(clues, (place, number, goal))) for goal in range(count)]
                self.assertEqual(sum(shares), meeting_count(count, clues), (count, clues, place, number))
        for count in range(1, 7):
            self.assertEqual(meeting_count(count, ()), count ** count)

    def test_j3_all_charts_of_up_to_four_places(self):
        for count in range(1, 5):
            charts = all_charts(count)
            self.assertEqual([nth_meeting(count, (), k) for k in range(len(charts))], charts)
            for k in (0, 1, 2, 3, 5, 12):
                for x, y in itertools.product(range(count), repeat=2):
                    found = [chart for chart in charts if meets(chart, ((x, k, y),))]
                    self.assertEqual(meeting_count(count, ((x, k, y),)), len(found), (count, x, k, y))
                    if found:
                        self.assertEqual(nth_meeting(count, ((x, k, y),), len(found) - 1), found[-1])

    def test_j4_each_clash_has_a_bar(self):
        for count, clues in some_clues(6, 20):
            bar = clash(count, clues)
            self.assertEqual(bar is None, meeting_count(count, clues) > 0, (count, clues))
            if bar is not None:
                self.assertTrue(is_bar(count, bar) and set(bar) <= set(clues), (count, clues))
                more = put_to(bar, (count - 1, 2, 0), (0, NINETY_DIGITS, count - 1))
                self.assertIsNotNone(clash(count, more), more)

    def test_j4_clues_of_next_places(self):
        pairs = list(itertools.product(range(3), repeat=2))
        for size in range(5):
            for found in itertools.combinations(pairs, size):
                clues = tuple((x, 1, y) for x, y in found)
                twice = len({x for x, _ in found}) < len(found)
                bar = clash(3, clues)
                self.assertEqual(bar is not None, twice, clues)
                if twice:
                    self.assertEqual([len(bar), bar[0][0]], [2, bar[1][0]], clues)

    def test_j5_renamed(self):
        for count, clues in some_clues(6, 5):
            found = meeting_count(count, clues)
            for row in some_rows(count):
                called = tuple(sorted((row[x], k, row[y]) for x, k, y in clues))
                self.assertEqual(meeting_count(count, called), found, (clues, row))
                if found:
                    chart = nth_meeting(count, clues, found // 2)
                    self.assertTrue(meets(renamed(chart, row), called), (clues, row))
                    nexts, others = sure_nexts(count, clues), sure_nexts(count, called)
                    for x in range(count):
                        wanted = None if nexts[x] is None else row[nexts[x]]
                        self.assertEqual(others[row[x]], wanted, (clues, row))

    def test_j6_no_steps(self):
        for count in range(1, 7):
            for x, y in itertools.product(range(count), repeat=2):
                clue = (x, 0, y)
                self.assertEqual(meeting_count(count, (clue,)), count ** count if x == y else 0)
                self.assertEqual(is_bar(count, (clue,)), x != y)
                if x == y:
                    self.assertTrue(is_sure(count, (), clue))
                    self.assertEqual(spare_clues(count, (clue,)), [clue])


if __name__ == "__main__":
    unittest.main()
