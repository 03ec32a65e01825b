"""The facts A1 to A7, over all charts of up to three places and some of up to ten."""

import itertools
import math
import unittest

from everynext.charts import behind, chart_text, chart_told, image, renamed, step
from everynext.errors import InvalidText
from everynext.rings import depths, first_repeat, height, on_rings, period, pieces, rings
from tests.helpers import CHARTS, NINETY_DIGITS, some_rows


def lots_by_row(lots, row):
    return sorted(tuple(sorted(row[place] for place in lot)) for lot in lots)


def rings_by_row(found, row):
    told = []
    for ring in found:
        places = [row[place] for place in ring]
        begun = places.index(min(places))
        told.append(tuple(places[begun:] + places[:begun]))
    return sorted(told)


class FactsTest(unittest.TestCase):
    def test_a1_charts(self):
        for chart in CHARTS:
            self.assertEqual(chart_told(chart_text(chart)), chart)

    def test_a1_texts(self):
        told = 0
        for length in range(5):
            for signs in itertools.product("01234x", repeat=length):
                text = "".join(signs)
                try:
                    chart = chart_told(text)
                except InvalidText:
                    continue
                self.assertEqual(chart_text(chart), text)
                told += 1
        self.assertEqual(told, 1 + 4 + 27 + 256)

    def test_a2_sums(self):
        numbers = [0, 1, 2, 3, 7, 10, 29, NINETY_DIGITS]
        for chart in CHARTS:
            for j, k in itertools.product(numbers, repeat=2):
                self.assertEqual(step(chart, j + k), behind(step(chart, j), step(chart, k)), (chart, j, k))

    def test_a2_products(self):
        numbers = [0, 1, 2, 3, 7, 10, 29, 10 ** 44 + 7]
        for chart in CHARTS:
            for j, k in itertools.product(numbers, repeat=2):
                self.assertEqual(step(step(chart, j), k), step(chart, j * k), (chart, j, k))

    def test_a2_no_step(self):
        for chart in CHARTS:
            self.assertEqual(step(chart, 0), tuple(range(len(chart))))

    def test_a3_one_ring_in_each_piece(self):
        for chart in CHARTS:
            found = rings(chart)
            for piece in pieces(chart):
                self.assertEqual(len([ring for ring in found if set(ring) <= set(piece)]), 1, (chart, piece))
            self.assertEqual(len(found), len(pieces(chart)), chart)
            self.assertEqual(sorted(sum(pieces(chart), ())), list(range(len(chart))), chart)

    def test_a3_depths(self):
        for chart in CHARTS:
            found = depths(chart)
            for place in range(len(chart)):
                wanted = 0 if place in on_rings(chart) else found[chart[place]] + 1
                self.assertEqual(found[place], wanted, (chart, place))

    def test_a4_equal_steps(self):
        for chart in CHARTS:
            high, long = height(chart), period(chart)
            most = min(high + 2 * long + 2, 45)
            steps = [step(chart, k) for k in range(most)]
            for j, k in itertools.combinations(range(most), 2):
                self.assertEqual(steps[j] == steps[k], j >= high and (k - j) % long == 0, (chart, j, k))

    def test_a4_first_repeat(self):
        for chart in CHARTS:
            for number in (*range(12), NINETY_DIGITS):
                wanted = number + period(chart) if number >= height(chart) else None
                self.assertEqual(first_repeat(chart, number), wanted, (chart, number))
                if wanted is not None:
                    self.assertEqual(step(chart, wanted), step(chart, number), (chart, number))

    def test_a5_images(self):
        for chart in CHARTS:
            for number in range(12):
                reached = image(step(chart, number))
                if number >= height(chart):
                    self.assertEqual(reached, on_rings(chart), (chart, number))
                else:
                    self.assertGreater(set(reached), set(on_rings(chart)), (chart, number))
                    self.assertGreater(len(reached), len(image(step(chart, number + 1))), (chart, number))

    def test_a6_places_on_rings(self):
        for chart in CHARTS:
            for number in (*range(1, 13), 30, NINETY_DIGITS):
                self.assertEqual(on_rings(step(chart, number)), on_rings(chart), (chart, number))

    def test_a6_rings_fall_into_others(self):
        for chart in CHARTS:
            for number in (*range(1, 13), 30, NINETY_DIGITS):
                found = rings(step(chart, number))
                for ring in rings(chart):
                    shares = math.gcd(len(ring), number)
                    inside = [len(other) for other in found if set(other) <= set(ring)]
                    self.assertEqual(inside, [len(ring) // shares] * shares, (chart, number, ring))

    def test_a7_rings_depths_and_pieces(self):
        for chart in CHARTS:
            for row in some_rows(len(chart)):
                other = renamed(chart, row)
                self.assertEqual(rings(other), rings_by_row(rings(chart), row), (chart, row))
                self.assertEqual(pieces(other), lots_by_row(pieces(chart), row), (chart, row))
                self.assertEqual([depths(other)[row[x]] for x in range(len(row))], list(depths(chart)), (chart, row))

    def test_a7_two_renamings(self):
        for chart in CHARTS:
            for row, other_row in itertools.product(some_rows(len(chart)), repeat=2):
                both = tuple(other_row[row[x]] for x in range(len(row)))
                self.assertEqual(renamed(renamed(chart, row), other_row), renamed(chart, both), (chart, row, other_row))


if __name__ == "__main__":
    unittest.main()
