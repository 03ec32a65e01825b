"""Points [6], [7] and [8]: charts, far steps and texts."""

import itertools
import unittest

from everynext.charts import (
    after, behind, chart_text, chart_told, image, is_chart, leading, renamed, step, way, with_next,
)
from everynext.errors import InvalidChart, InvalidText
from tests.helpers import (
    BUSHES, CHARTS, EACH_ITS_OWN, EAR, LONG_WAY, LONG_WAY_TO_TWO, NINETY_DIGITS, NOT_CHARTS, NOT_STRINGS, ONE,
    ONE_RING, PERIOD_THIRTY, STAR, TEXT_OF_NINETY_DIGITS, plain_step, some_rows, walked,
)


class IsChartTest(unittest.TestCase):
    def test_charts(self):
        for chart in CHARTS:
            self.assertIs(is_chart(chart), True, chart)

    def test_all_tuples_of_small_integers(self):
        for count in range(4):
            for value in itertools.product(range(-1, 5), repeat=count):
                wanted = count > 0 and min(value) >= 0 and max(value) < count
                self.assertIs(is_chart(value), wanted, value)

    def test_other_values(self):
        for value in NOT_CHARTS:
            self.assertIs(is_chart(value), False, value)

    def test_one_wrong_entry_among_ten(self):
        for index in range(10):
            for wrong in (10, -1, True, False, "0", None, (0,), [0]):
                value = ONE_RING[:index] + (wrong,) + ONE_RING[index + 1:]
                self.assertIs(is_chart(value), False, value)


class StepTest(unittest.TestCase):
    def test_ninety_digits_are_ninety(self):
        self.assertEqual([len(TEXT_OF_NINETY_DIGITS), 10 ** 89 < NINETY_DIGITS < 10 ** 90], [90, True])

    def test_few_steps(self):
        for chart in CHARTS:
            for number in range(25):
                self.assertEqual(step(chart, number), plain_step(chart, number), (chart, number))

    def test_many_steps(self):
        for chart in CHARTS:
            for number in (10 ** 6, 2 ** 64 - 1, 2 ** 64, NINETY_DIGITS, NINETY_DIGITS + 1, 10 ** 90 - 1):
                self.assertEqual(step(chart, number), plain_step(chart, number), (chart, number))

    def test_edges(self):
        self.assertEqual(step(ONE, 0), ONE)
        self.assertEqual(step(ONE, NINETY_DIGITS), ONE)
        self.assertEqual(step(EACH_ITS_OWN, NINETY_DIGITS), EACH_ITS_OWN)
        self.assertEqual(step(ONE_RING, 0), EACH_ITS_OWN)
        self.assertEqual(step(ONE_RING, 1), ONE_RING)
        self.assertEqual(step(ONE_RING, 9), (9, 0, 1, 2, 3, 4, 5, 6, 7, 8))
        self.assertEqual(step(ONE_RING, 10 ** 89), EACH_ITS_OWN)
        self.assertEqual(step(ONE_RING, 10 ** 89 + 1), ONE_RING)
        self.assertEqual(step(LONG_WAY, 8), (0, 0, 0, 0, 0, 0, 0, 0, 0, 1))
        self.assertEqual(step(LONG_WAY, 9), (0,) * 10)
        self.assertEqual(step(PERIOD_THIRTY, 3 * 10 ** 88), EACH_ITS_OWN)
        self.assertEqual(step(PERIOD_THIRTY, 3 * 10 ** 88 + 1), PERIOD_THIRTY)

    def test_after_is_the_place_in_the_far_step(self):
        for chart in CHARTS:
            for place in range(len(chart)):
                for number in (0, 1, 2, 5, 9, 10, 31, 2520, NINETY_DIGITS):
                    self.assertEqual(after(chart, place, number), walked(chart, place, number), (chart, place, number))

    def test_after_at_the_ends_of_a_long_way(self):
        self.assertEqual([after(LONG_WAY, 9, 8), after(LONG_WAY, 9, 9), after(LONG_WAY, 9, 10 ** 90 - 1)], [1, 0, 0])
        self.assertEqual([after(LONG_WAY_TO_TWO, 0, 10 ** 89), after(LONG_WAY_TO_TWO, 0, 10 ** 89 + 1)], [8, 9])


class WaysTest(unittest.TestCase):
    def test_way(self):
        for chart in CHARTS:
            for place in range(len(chart)):
                wanted = []
                for number in range(len(chart)):
                    if walked(chart, place, number) not in wanted:
                        wanted.append(walked(chart, place, number))
                self.assertEqual(way(chart, place), tuple(wanted), (chart, place))

    def test_way_edges(self):
        self.assertEqual(way(ONE, 0), (0,))
        self.assertEqual(way(EACH_ITS_OWN, 9), (9,))
        self.assertEqual(way(ONE_RING, 4), (4, 5, 6, 7, 8, 9, 0, 1, 2, 3))
        self.assertEqual(way(LONG_WAY, 9), (9, 8, 7, 6, 5, 4, 3, 2, 1, 0))
        self.assertEqual(way(LONG_WAY_TO_TWO, 9), (9, 8))
        self.assertEqual(way(EAR, 3), (3, 2, 1))

    def test_leading(self):
        for chart in CHARTS:
            for place in range(len(chart)):
                wanted = [x for x, following in enumerate(chart) if following == place]
                self.assertEqual(leading(chart, place), tuple(wanted), (chart, place))

    def test_leading_edges(self):
        self.assertEqual([leading(ONE, 0), leading(STAR, 7), leading(STAR, 0)], [(0,), EACH_ITS_OWN, ()])
        self.assertEqual([leading(LONG_WAY, 0), leading(LONG_WAY, 9), leading(ONE_RING, 0)], [(0, 1), (), (9,)])

    def test_image(self):
        for chart in CHARTS:
            wanted = [place for place in range(len(chart)) if place in chart]
            self.assertEqual(image(chart), tuple(wanted), chart)

    def test_image_edges(self):
        self.assertEqual([image(ONE), image(STAR), image(ONE_RING)], [(0,), (7,), EACH_ITS_OWN])
        self.assertEqual(image(LONG_WAY), (0, 1, 2, 3, 4, 5, 6, 7, 8))


class NewChartsTest(unittest.TestCase):
    def test_behind(self):
        for chart in CHARTS:
            for other in CHARTS:
                if len(other) == len(chart):
                    wanted = tuple(other[chart[x]] for x in range(len(chart)))
                    self.assertEqual(behind(chart, other), wanted, (chart, other))

    def test_behind_needs_equal_numbers_of_places(self):
        for chart, other in itertools.product(CHARTS[::5], repeat=2):
            if len(chart) != len(other):
                with self.assertRaises(InvalidChart, msg=(chart, other)):
                    behind(chart, other)

    def test_behind_is_first_the_one_and_then_the_other(self):
        self.assertEqual([behind((1, 0), (0, 0)), behind((0, 0), (1, 0))], [(0, 0), (1, 1)])

    def test_renamed(self):
        for chart in CHARTS:
            for row in some_rows(len(chart)):
                told = renamed(chart, row)
                self.assertEqual(len(told), len(chart))
                for x in range(len(chart)):
                    self.assertEqual(told[row[x]], row[chart[x]], (chart, row, x))

    def test_renamed_edges(self):
        self.assertEqual(renamed(ONE, (0,)), ONE)
        self.assertEqual(renamed(EACH_ITS_OWN, ONE_RING), EACH_ITS_OWN)
        self.assertEqual(renamed(ONE_RING, EACH_ITS_OWN), ONE_RING)
        self.assertEqual(renamed(LONG_WAY, EACH_ITS_OWN[::-1]), (1, 2, 3, 4, 5, 6, 7, 8, 9, 9))
        self.assertEqual(renamed((1, 2, 2), (1, 2, 0)), (0, 2, 0))

    def test_with_next(self):
        for chart in CHARTS:
            for place, other in itertools.product(range(len(chart)), repeat=2):
                wanted = [other if x == place else chart[x] for x in range(len(chart))]
                self.assertEqual(with_next(chart, place, other), tuple(wanted), (chart, place, other))

    def test_with_next_edges(self):
        self.assertEqual([with_next(ONE, 0, 0), with_next((1, 0), 1, 1)], [(0,), (1, 1)])
        self.assertEqual(with_next(ONE_RING, 9, 9), (1, 2, 3, 4, 5, 6, 7, 8, 9, 9))
        self.assertEqual(with_next(STAR, 0, 3), (3, 7, 7, 7, 7, 7, 7, 7, 7, 7))


def some_chart_begins_with(text):
    """Looks through the numbers of places, as the document's words are."""
    numbers = range(max(1, len(text)), 11)
    return any(all(sign in "0123456789"[:count] for sign in text) for count in numbers)


def plain_index(text):
    return max(index for index in range(min(len(text), 11) + 1) if some_chart_begins_with(text[:index]))


class TextsTest(unittest.TestCase):
    def assert_refused(self, text, index):
        with self.assertRaises(InvalidText, msg=text) as caught:
            chart_told(text)
        self.assertEqual(caught.exception.index, index, text)
        self.assertIs(type(caught.exception.index), int, text)

    def test_chart_text(self):
        self.assertEqual([chart_text(ONE), chart_text(EAR), chart_text(STAR)], ["0", "1212", "7777777777"])
        self.assertEqual([chart_text(EACH_ITS_OWN), chart_text(ONE_RING)], ["0123456789", "1234567890"])
        self.assertEqual(chart_text(BUSHES), "3334535778")

    def test_chart_told(self):
        self.assertEqual([chart_told("0"), chart_told("10"), chart_told("222")], [(0,), (1, 0), (2, 2, 2)])
        self.assertEqual([chart_told("0123456789"), chart_told("9999999999")], [EACH_ITS_OWN, (9,) * 10])
        self.assertEqual(chart_told("888888888"), (8,) * 9)

    def test_all_short_texts(self):
        for length in range(5):
            for signs in itertools.product("01239x", repeat=length):
                text = "".join(signs)
                if length > 0 and all(sign in "0123456789"[:length] for sign in text):
                    self.assertEqual(chart_told(text), tuple(map(int, text)), text)
                else:
                    self.assert_refused(text, plain_index(text))

    def test_cut_short(self):
        self.assert_refused("", 0)
        self.assert_refused("1", 1)
        self.assert_refused("9", 1)
        self.assert_refused("13", 2)
        self.assert_refused("12", 2)
        self.assert_refused("999999999", 9)
        self.assert_refused("123456789", 9)

    def test_too_long(self):
        self.assert_refused("0" * 11, 10)
        self.assert_refused("12345678900", 10)
        self.assert_refused("9" * 11, 10)
        self.assert_refused("0123456789x", 10)
        self.assert_refused("0" * 20000, 10)
        self.assert_refused("1" * 9 + "x" * 19000, 9)

    def test_wrong_signs(self):
        for sign in ["x", " ", "-", "+", "_", ".", ";", ",", "\n", "\t", "\x00", "/", ":", "O"]:
            self.assert_refused(sign, 0)
            self.assert_refused(sign + "0", 0)
            self.assert_refused("0" + sign, 1)
            self.assert_refused("13" + sign + "0", 2)
            self.assert_refused("1212" + sign, 4)
            self.assert_refused("012345678" + sign, 9)
            self.assert_refused("0123456789" + sign, 10)

    def test_the_first_wrong_sign_counts(self):
        self.assert_refused("1x3x", 1)
        self.assert_refused("xx", 0)

    def test_values_that_are_no_strings(self):
        for value in NOT_STRINGS:
            self.assert_refused(value, 0)


if __name__ == "__main__":
    unittest.main()
