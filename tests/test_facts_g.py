"""The facts G1 to G5, over all charts and all trees of up to four places and some of up to ten."""

import itertools
import math
import unittest

from everynext.marked_trees import (
    chart_by_marks, forest_by, forest_count, forest_of, forest_row, is_forest, is_tree, leaf_row, marked_tree, nth_tree,
    tree_by, tree_count, tree_number, tree_way,
)
from everynext.rings import on_rings
from tests.helpers import FACT_CHARTS, all_charts, all_lots, all_trees

SMALL_TREES = [(count, tree) for count in range(1, 5) for tree in all_trees(count)]
LARGE_TREES = [
    (count, nth_tree(count, number))
    for count in range(5, 11) for number in range(0, count ** (count - 2), count ** (count - 2) // 9)
]
TREES = SMALL_TREES + LARGE_TREES


class FactsTest(unittest.TestCase):
    def test_g1_one_to_one(self):
        for count in range(1, 5):
            found = {marked_tree(chart) for chart in all_charts(count)}
            places = range(count)
            self.assertEqual(found, set(itertools.product(all_trees(count), places, places)))
            self.assertEqual(len(found), count ** count)
            self.assertEqual(tree_count(count), max(1, count ** count // count ** 2))

    def test_g1_there_and_back(self):
        for chart in FACT_CHARTS:
            tree, place, other = marked_tree(chart)
            self.assertTrue(is_tree(tree), chart)
            self.assertEqual(chart_by_marks(tree, place, other), chart)
        for count, tree in TREES:
            for place, other in itertools.product(range(count), repeat=2):
                self.assertEqual(marked_tree(chart_by_marks(tree, place, other)), (tree, place, other))

    def test_g2_places_between_the_marks(self):
        for chart in FACT_CHARTS:
            tree, place, other = marked_tree(chart)
            between = tree_way(tree, place, other)
            self.assertEqual(tuple(sorted(between)), on_rings(chart), chart)
            self.assertEqual(place == other, len(on_rings(chart)) == 1, chart)
        for count, tree in TREES:
            for place, other in itertools.product(range(count), repeat=2):
                chart = chart_by_marks(tree, place, other)
                self.assertEqual(on_rings(chart), tuple(sorted(tree_way(tree, place, other))), (tree, place, other))

    def test_g3_leaf_rows(self):
        for count, tree in TREES:
            row = leaf_row(tree)
            self.assertEqual(tree_by(count, row), tree)
            self.assertEqual(nth_tree(count, tree_number(tree)), tree)
            if count > 1:
                for place in range(count):
                    ties = len([tie for tie in tree if place in tie])
                    self.assertEqual(row.count(place), ties - 1, (tree, place))
        for count in range(1, 5):
            for row in itertools.product(range(count), repeat=max(0, count - 2)):
                self.assertEqual(leaf_row(tree_by(count, row)), row)
        for count in range(5, 11):
            for seed in range(1, 9):
                row = tuple((seed * 7 + k * k * seed) % count for k in range(count - 2))
                self.assertEqual(leaf_row(tree_by(count, row)), row)

    def test_g4_forest_rows(self):
        for chart in FACT_CHARTS:
            forest = forest_of(chart)
            row = forest_row(forest)
            roots = on_rings(forest)
            self.assertEqual(forest_by(len(chart), roots, row), forest, chart)
            for place in range(len(chart)):
                if place not in roots:
                    self.assertEqual(row.count(place), forest.count(place), (chart, place))
        for count in range(1, 11):
            for lot in all_lots(count)[1:] if count < 5 else all_lots(count)[1::count * 9]:
                others = count - len(lot)
                for seed in range(1, 6):
                    row = tuple((seed * 5 + k * k * seed) % count for k in range(others - 1)) + lot[:1] * (others > 0)
                    self.assertEqual(forest_row(forest_by(count, lot, row)), row, (count, lot, row))

    def test_g4_how_many(self):
        for count in range(1, 5):
            forests = [chart for chart in all_charts(count) if is_forest(chart)]
            for lot in all_lots(count)[1:]:
                wanted = len([chart for chart in forests if on_rings(chart) == lot])
                self.assertEqual(forest_count(count, lot), wanted, (count, lot))
        for count in range(1, 11):
            for size in range(1, count + 1):
                wanted = 1 if size == count else size * count ** (count - size - 1)
                self.assertEqual(forest_count(count, tuple(range(size))), wanted, (count, size))

    def test_g5_charts_of_one_forest(self):
        for count in range(1, 5):
            told = {}
            for chart in all_charts(count):
                told.setdefault(forest_of(chart), set()).add(tuple(chart[place] for place in on_rings(chart)))
            for forest, rows in told.items():
                roots = on_rings(forest)
                self.assertEqual(rows, set(itertools.permutations(roots)), forest)
                self.assertEqual(len(rows), math.factorial(len(roots)))
        for chart in FACT_CHARTS:
            self.assertTrue(is_forest(forest_of(chart)), chart)
            self.assertEqual(on_rings(forest_of(chart)), on_rings(chart))


if __name__ == "__main__":
    unittest.main()
