"""Points [24] to [26]: trees with two marks, leaf rows, and forests."""

import itertools
import unittest

from everynext.errors import (
    InvalidChart, InvalidCount, InvalidLot, InvalidPlace, InvalidRow, InvalidTree, NotForest,
)
from everynext.marked_trees import (
    chart_by_marks, forest_by, forest_count, forest_of, forest_row, is_forest, is_tree, leaf_row, marked_tree, nth_tree,
    tree_by, tree_count, tree_number, tree_way,
)
from tests.helpers import (
    ALIKE_RINGS_ALIKE_TREES, BUSHES, CHARTS, CHARTS_OF_FOUR, CHARTS_OF_TEN, EACH_ITS_OWN, EAR, FACT_CHARTS, LONG_WAY,
    LONG_WAY_TO_TWO, NINETY_DIGITS, NOT_LOTS, NOT_TOLD_ROWS, NOT_TREES, ONE, ONE_RING, SMALL_CHARTS, STAR, all_charts,
    all_lots, all_trees, is_plainly_on_ring, not_within, plain_ring_of, plain_tree_way, raised_by,
    told_in_time,
)

LINE = tuple((place, place + 1) for place in range(9))
BROOM = ((0, 5), (1, 5), (2, 5), (3, 5), (4, 5), (5, 6), (6, 7), (7, 8), (8, 9))
STAR_TREE = tuple((0, place) for place in range(1, 10))
TREES_OF_TEN = [LINE, BROOM, STAR_TREE]
SMALL_TREES = [(count, tree) for count in range(1, 6) for tree in all_trees(count)]
TREES = SMALL_TREES + [(10, tree) for tree in TREES_OF_TEN]


def plain_leaf_row(count, tree):
    left, told = set(range(count)), []
    while len(left) > 2:
        near = {x: [y for y in left if (x, y) in tree or (y, x) in tree] for x in left}
        leaf = min(x for x in left if len(near[x]) == 1)
        told += near[leaf]
        left.remove(leaf)
    return tuple(told)


def plain_forest_row(chart):
    left, told = {place for place in range(len(chart)) if chart[place] != place}, []
    while left:
        leaf = min(x for x in left if not any(chart[y] == x for y in left))
        told.append(chart[leaf])
        left.remove(leaf)
    return tuple(told)


def all_forests(count):
    return [chart for chart in all_charts(count) if all(
        len(plain_ring_of(chart, place)) == 1 for place in range(count)
    )]


class TreesTest(unittest.TestCase):
    def test_is_tree(self):
        for count in range(1, 5):
            pairs = list(itertools.product(range(count), repeat=2))
            for ties in itertools.product(pairs, repeat=count - 1):
                self.assertIs(is_tree(ties), ties in all_trees(count), ties)
        for ties in itertools.combinations(itertools.combinations(range(5), 2), 4):
            self.assertIs(is_tree(ties), ties in all_trees(5), ties)
            self.assertIs(is_tree(ties[::-1]), False, ties)

    def test_is_tree_edges(self):
        self.assertEqual([is_tree(()), is_tree(((0, 1),)), is_tree(((0, 1), (0, 2)))], [True, True, True])
        for tree in TREES_OF_TEN:
            self.assertIs(is_tree(tree), True)
            # A tie fewer, one turned, one twice, one more, as a list.
            self.assertIs(is_tree(tree[1:]), False)
            self.assertIs(is_tree(tree[:-1] + (tree[-1][::-1],)), False)
            self.assertIs(is_tree(tree[:8] + tree[7:8]), False)
            self.assertIs(is_tree(tree + ((9, 10),)), False)
            self.assertIs(is_tree(list(tree)), False)
        self.assertIs(is_tree(((0, 1), (0, 2), (1, 2)) + tuple((2, place) for place in range(3, 9))), False)
        for value in NOT_TREES:
            self.assertIs(is_tree(value), False, value)

    def test_tree_way(self):
        for count, tree in TREES:
            for place, other in itertools.product(range(count), repeat=2):
                self.assertEqual(tree_way(tree, place, other), plain_tree_way(tree, place, other), (tree, place, other))

    def test_tree_way_edges(self):
        self.assertEqual([tree_way((), 0, 0), tree_way(LINE, 9, 0)], [(0,), EACH_ITS_OWN[::-1]])
        self.assertEqual([tree_way(STAR_TREE, 3, 9), tree_way(STAR_TREE, 0, 9)], [(3, 0, 9), (0, 9)])
        self.assertEqual([tree_way(BROOM, 4, 7), tree_way(BROOM, 6, 6)], [(4, 5, 6, 7), (6,)])

    def test_errors(self):
        for function in (tree_way, chart_by_marks):
            for tree in NOT_TREES:
                self.assertEqual(raised_by(self, function, tree, 0, 0)[0], InvalidTree, tree)
                self.assertEqual(raised_by(self, function, tree, None, -1)[0], InvalidTree, tree)
            for place in (-1, 10, True, None, "0", (0,), NINETY_DIGITS):
                self.assertEqual(raised_by(self, function, LINE, place, 0)[0], InvalidPlace, place)
                self.assertEqual(raised_by(self, function, LINE, 0, place)[0], InvalidPlace, place)
            self.assertEqual(raised_by(self, function, (), 0, 1)[0], InvalidPlace)
            self.assertEqual(raised_by(self, function, ((0, 1),), 2, 0)[0], InvalidPlace)
        for function in (leaf_row, tree_number):
            for tree in NOT_TREES:
                self.assertEqual(raised_by(self, function, tree)[0], InvalidTree, tree)
        self.assertEqual(raised_by(self, marked_tree, (1,))[0], InvalidChart)


class MarksTest(unittest.TestCase):
    def test_chart_by_marks(self):
        for count, tree in TREES:
            for place, other in itertools.product(range(count), repeat=2):
                way = plain_tree_way(tree, place, other)
                wanted = dict(zip(sorted(way), way))
                for x in range(count):
                    if x not in way:
                        wanted[x] = plain_tree_way(tree, x, place)[1]
                told = chart_by_marks(tree, place, other)
                self.assertEqual(told, tuple(wanted[x] for x in range(count)), (tree, place, other))
                self.assertEqual(marked_tree(told), (tree, place, other))

    def test_marked_tree(self):
        for chart in FACT_CHARTS:
            tree, place, other = told_in_time(self, marked_tree, chart)
            self.assertTrue(is_tree(tree), chart)
            self.assertEqual(chart_by_marks(tree, place, other), chart)

    def test_edges(self):
        self.assertEqual([marked_tree(ONE), chart_by_marks((), 0, 0)], [((), 0, 0), ONE])
        self.assertEqual(marked_tree(STAR), (tuple(sorted((min(x, 7), max(x, 7)) for x in range(10) if x != 7)), 7, 7))
        self.assertEqual([marked_tree(LONG_WAY), marked_tree(EACH_ITS_OWN)], [(LINE, 0, 0), (LINE, 0, 9)])
        self.assertEqual(marked_tree(ONE_RING), (((0, 9),) + LINE[1:], 1, 0))
        self.assertEqual(marked_tree(LONG_WAY_TO_TWO), (LINE, 9, 8))
        self.assertEqual([chart_by_marks(LINE, 9, 0), chart_by_marks(LINE, 0, 9)], [EACH_ITS_OWN[::-1], EACH_ITS_OWN])
        self.assertEqual(chart_by_marks(STAR_TREE, 3, 3), (3, 0, 0, 3, 0, 0, 0, 0, 0, 0))
        self.assertEqual(chart_by_marks(BROOM, 6, 4), (5, 5, 5, 5, 6, 5, 4, 6, 7, 8))


class LeafRowTest(unittest.TestCase):
    def test_leaf_row(self):
        for count, tree in TREES:
            row = told_in_time(self, leaf_row, tree)
            self.assertEqual(row, plain_leaf_row(count, tree), tree)
            self.assertEqual(tree_by(count, row), tree)

    def test_tree_by(self):
        for count in range(1, 6):
            for row in itertools.product(range(count), repeat=max(0, count - 2)):
                tree = tree_by(count, row)
                self.assertIn(tree, all_trees(count), row)
                self.assertEqual(plain_leaf_row(count, tree), row)

    def test_edges(self):
        self.assertEqual([leaf_row(()), leaf_row(((0, 1),)), leaf_row(((0, 1), (0, 2)))], [(), (), (0,)])
        self.assertEqual([leaf_row(LINE), leaf_row(STAR_TREE), leaf_row(BROOM)],
                         [EACH_ITS_OWN[1:9], (0,) * 8, (5, 5, 5, 5, 5, 6, 7, 8)])
        self.assertEqual([tree_by(1, ()), tree_by(2, ()), tree_by(3, (2,))], [(), ((0, 1),), ((0, 2), (1, 2))])
        self.assertEqual([tree_by(10, EACH_ITS_OWN[1:9]), tree_by(10, (9,) * 8)],
                         [LINE, tuple((place, 9) for place in range(9))])

    def test_wrong_rows(self):
        for row in NOT_TOLD_ROWS:
            self.assertEqual(raised_by(self, tree_by, 4, row)[0], InvalidRow, row)
        wrongs = [(1, (0,)), (2, (0,)), (2, (0, 1)), (3, ()), (3, (3,)), (10, (0,) * 9), (10, (10,) * 8), (1, [])]
        for many, row in wrongs:
            self.assertEqual(raised_by(self, tree_by, many, row)[0], InvalidRow, (many, row))
        for many in not_within(10):
            self.assertEqual(raised_by(self, tree_by, many, None)[0], InvalidCount, many)
            self.assertEqual(raised_by(self, tree_count, many)[0], InvalidCount, many)
            self.assertEqual(raised_by(self, nth_tree, many, -1)[0], InvalidCount, many)
        for number in (-1, True, None, "1"):
            self.assertEqual(raised_by(self, nth_tree, 10, number)[0], InvalidCount, number)

    def test_numbers(self):
        for count in range(1, 6):
            trees = sorted(all_trees(count), key=lambda tree: plain_leaf_row(count, tree))
            self.assertEqual(tree_count(count), len(trees))
            self.assertEqual([nth_tree(count, number) for number in range(len(trees))], trees)
            self.assertEqual([tree_number(tree) for tree in trees], list(range(len(trees))))
            for number in (len(trees), len(trees) + 1, NINETY_DIGITS):
                self.assertIsNone(nth_tree(count, number))

    def test_numbers_of_ten_places(self):
        self.assertEqual([tree_count(many) for many in (1, 2, 3, 9, 10)], [1, 1, 3, 9 ** 7, 10 ** 8])
        self.assertEqual([tree_number(LINE), tree_number(STAR_TREE), tree_number(BROOM)], [12345678, 0, 55555678])
        self.assertEqual([nth_tree(10, 12345678), nth_tree(10, 0), nth_tree(10, 55555678)], [LINE, STAR_TREE, BROOM])
        self.assertEqual(nth_tree(10, 10 ** 8 - 1), tuple((place, 9) for place in range(9)))
        self.assertEqual([nth_tree(10, 10 ** 8), nth_tree(10, NINETY_DIGITS), nth_tree(1, 1), nth_tree(2, 0)],
                         [None, None, None, ((0, 1),)])
        for number in range(0, 10 ** 8, 7654321):
            self.assertEqual(tree_number(told_in_time(self, nth_tree, 10, number)), number)


class ForestsTest(unittest.TestCase):
    def test_is_forest_and_forest_of(self):
        for chart in FACT_CHARTS:
            alone = all(len(plain_ring_of(chart, place)) == 1 for place in range(len(chart)))
            self.assertIs(is_forest(chart), alone, chart)
            places = range(len(chart))
            wanted = tuple(place if is_plainly_on_ring(chart, place) else chart[place] for place in places)
            self.assertEqual(forest_of(chart), wanted, chart)

    def test_forest_row(self):
        for chart in SMALL_CHARTS + CHARTS_OF_FOUR + CHARTS:
            long = sorted(ring for ring in {plain_ring_of(chart, x) for x in range(len(chart))} if len(ring) > 1)
            if long:
                self.assertEqual(raised_by(self, forest_row, chart), (NotForest, {"ring": long[0]}), chart)
            else:
                self.assertEqual(forest_row(chart), plain_forest_row(chart), chart)

    def test_forest_by(self):
        for count in range(1, 5):
            forests = all_forests(count)
            for lot in all_lots(count)[1:]:
                wanted = [chart for chart in forests if all((chart[x] == x) == (x in lot) for x in range(count))]
                self.assertEqual(forest_count(count, lot), len(wanted), (count, lot))
                found = []
                for row in itertools.product(range(count), repeat=count - len(lot)):
                    if not row or row[-1] in lot:
                        found.append(forest_by(count, lot, row))
                        self.assertEqual(plain_forest_row(found[-1]), row)
                    else:
                        self.assertEqual(raised_by(self, forest_by, count, lot, row)[0], InvalidRow, (count, lot, row))
                self.assertEqual(sorted(found), wanted, (count, lot))

    def test_edges(self):
        self.assertEqual([is_forest(ONE), forest_of(ONE), forest_row(ONE)], [True, ONE, ()])
        self.assertEqual(forest_by(1, (0,), ()), ONE)
        self.assertEqual([forest_row(EACH_ITS_OWN), forest_by(10, EACH_ITS_OWN, ())], [(), EACH_ITS_OWN])
        self.assertEqual([forest_row(STAR), forest_by(10, (7,), (7,) * 9)], [(7,) * 9, STAR])
        downwards = (8, 7, 6, 5, 4, 3, 2, 1, 0)
        self.assertEqual([forest_row(LONG_WAY), forest_by(10, (0,), downwards)], [downwards, LONG_WAY])
        self.assertEqual([forest_of(ONE_RING), forest_of(LONG_WAY_TO_TWO)], [EACH_ITS_OWN, EACH_ITS_OWN[1:9] + (8, 9)])
        self.assertEqual(forest_row((3, 3, 3, 3, 4, 3, 5, 7, 7, 8)), (3, 3, 3, 5, 3, 8, 7))
        self.assertEqual([forest_count(10, EACH_ITS_OWN), forest_count(10, EACH_ITS_OWN[1:])], [1, 9])
        self.assertEqual([forest_count(10, (3,)), forest_count(10, (0, 9))], [10 ** 8, 2 * 10 ** 7])
        self.assertEqual(forest_count(1, (0,)), 1)
        self.assertEqual(raised_by(self, forest_row, BUSHES), (NotForest, {"ring": (3, 4, 5)}))
        self.assertEqual(raised_by(self, forest_row, ALIKE_RINGS_ALIKE_TREES), (NotForest, {"ring": (0, 1)}))
        self.assertEqual(raised_by(self, forest_row, (0, 2, 1, 4, 5, 3)), (NotForest, {"ring": (1, 2)}))
        self.assertEqual(raised_by(self, forest_row, (0,) * 11)[0], InvalidChart)

    def test_errors(self):
        for many in not_within(10):
            self.assertEqual(raised_by(self, forest_by, many, None, None)[0], InvalidCount, many)
            self.assertEqual(raised_by(self, forest_count, many, ())[0], InvalidCount, many)
        for lot in NOT_LOTS + [()]:
            self.assertEqual(raised_by(self, forest_by, 4, lot, None)[0], InvalidLot, lot)
            self.assertEqual(raised_by(self, forest_count, 4, lot)[0], InvalidLot, lot)
        for row in NOT_TOLD_ROWS + [(0, 1), (1, 2), (3, 2)]:
            self.assertEqual(raised_by(self, forest_by, 4, (0, 3), row)[0], InvalidRow, row)
        for row in ((0,), (1, 0), None, [], "", (None,)):
            self.assertEqual(raised_by(self, forest_by, 2, (0, 1), row)[0], InvalidRow, row)
        self.assertEqual(raised_by(self, forest_by, 2, (2,), ())[0], InvalidLot)
        self.assertEqual(raised_by(self, forest_by, 1, (0,), (0,))[0], InvalidRow)


if __name__ == "__main__":
    unittest.main()
