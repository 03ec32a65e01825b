"""The document's examples, word for word."""

import unittest

import everynext.charts
import everynext.errors
import everynext.rings
from tests.helpers import run_examples

PART_1 = """
>>> ear, two = chart_told("1212"), chart_told("10")
>>> [ear, step(ear, 2), after(ear, 0, 10 ** 50), way(ear, 0), way((2, 0, 1), 0), leading(ear, 1), image(ear)]
[(1, 2, 1, 2), (2, 1, 2, 1), 2, (0, 1, 2), (0, 2, 1), (0, 2), (1, 2)]
>>> [rings(ear), depths(ear), height(ear), period(ear), entry(ear, 3), pieces(ear), children(ear, 2), tree_over(ear, 1)]
[[(1, 2)], (1, 0, 0, 1), 1, 2, 2, [(0, 1, 2, 3)], (3,), (0, 1)]
>>> [first_repeat(ear, 0), first_repeat(ear, 1), renamed(ear, (3, 1, 2, 0)), behind(two, two), with_next(two, 0, 0)]
[None, 3, (2, 2, 1, 1), (0, 1), (0, 0)]
>>> chart_told("13")
raises InvalidText(2)
>>> chart_told("1x")
raises InvalidText(1)
>>> chart_told("")
raises InvalidText(0)
"""


class ExamplesTest(unittest.TestCase):
    def test_part_1(self):
        run_examples(self, PART_1, {**vars(everynext.errors), **vars(everynext.charts), **vars(everynext.rings)})


if __name__ == "__main__":
    unittest.main()
