"""Points [2], [3] and [4], and the interface: names, errors in their order, new lists, equal results."""

import copy
import inspect
import os
import subprocess
import sys
import unittest

from everynext import charts, errors, rings
from everynext.errors import InvalidChart, InvalidCount, InvalidPlace, InvalidRow, InvalidText
from tests.helpers import (
    CHARTS, EAR, LARGE_CHARTS, NINETY_DIGITS, NOT_CHARTS, NOT_NUMBERS, NOT_PLACES, NOT_ROWS, NOT_STRINGS, ONE_RING,
    deep, state_of,
)

INTERFACE = {
    charts: {
        "is_chart": ["value"], "step": ["chart", "number"], "after": ["chart", "place", "number"],
        "way": ["chart", "place"], "leading": ["chart", "place"], "image": ["chart"],
        "behind": ["chart", "other_chart"], "renamed": ["chart", "row"], "with_next": ["chart", "place", "other_place"],
        "chart_text": ["chart"], "chart_told": ["text"],
    },
    rings: {
        "rings": ["chart"], "ring_of": ["chart", "place"], "on_rings": ["chart"], "depth": ["chart", "place"],
        "depths": ["chart"], "height": ["chart"], "period": ["chart"], "entry": ["chart", "place"],
        "pieces": ["chart"], "children": ["chart", "place"], "tree_over": ["chart", "place"],
        "first_repeat": ["chart", "number"],
    },
}
# For each parameter a right value (beside a chart of four places), the error, and wrong values.
PARAMETERS = {
    "value": (EAR, None, []),
    "chart": (EAR, InvalidChart, NOT_CHARTS),
    "other_chart": ((3, 3, 1, 0), InvalidChart, NOT_CHARTS + [(0,), (1, 0), (0, 1, 2), (0,) * 5, ONE_RING]),
    "place": (3, InvalidPlace, NOT_PLACES),
    "other_place": (1, InvalidPlace, NOT_PLACES),
    "row": ((3, 1, 0, 2), InvalidRow, NOT_ROWS),
    "number": (7, InvalidCount, NOT_NUMBERS),
    "text": ("1212", InvalidText, NOT_STRINGS + ["", "x", "13", "1x", "0" * 11]),
}
ANY_VALUES = [
    0, 1, -1, NINETY_DIGITS, -NINETY_DIGITS, True, False, None, "", "0", "x" * 20000, (), [], (0,), [0], EAR, list(EAR),
    deep(0), deep([]), (0,) * 3000, [0] * 3000, [[1], (2, [3])],
]


def functions():
    return [
        (getattr(module, name), parameters)
        for module, listed in INTERFACE.items()
        for name, parameters in listed.items()
    ]


def right_values(parameters):
    return [PARAMETERS[parameter][0] for parameter in parameters]


def outcome(function, values):
    """What a call returns or raises, in a form that can be compared."""
    try:
        return "returned", function(*values)
    except ValueError as error:
        return "raised", state_of(error)


def kinds_within(value):
    if isinstance(value, (tuple, list)):
        return {type(value)}.union(*[kinds_within(item) for item in value])
    return {type(value)}


def some_calls():
    """Calls of all functions with each chart, each place and some numbers."""
    for function, parameters in functions():
        for chart in CHARTS if parameters[0] == "chart" else [EAR]:
            for place in range(len(chart)) if "place" in parameters else [0]:
                values = dict(chart=chart, place=place, other_place=len(chart) - 1 - place, other_chart=chart[::-1])
                values.update(row=tuple(range(len(chart)))[::-1], number=place + 3, value=chart, text="1212")
                yield function, [values[parameter] for parameter in parameters]


class InterfaceTest(unittest.TestCase):
    def test_names_and_parameters(self):
        for module, listed in INTERFACE.items():
            for name, parameters in listed.items():
                function = getattr(module, name)
                self.assertEqual(list(inspect.signature(function).parameters), parameters, name)
                self.assertEqual(function.__module__, module.__name__, name)

    def test_classes_are_defined_in_errors(self):
        for value in vars(errors).values():
            if isinstance(value, type):
                self.assertEqual(value.__module__, "everynext.errors")

    def test_arguments_by_name(self):
        for function, values in some_calls():
            parameters = list(inspect.signature(function).parameters)
            told = function(**dict(zip(parameters[::-1], values[::-1])))
            self.assertEqual(told, function(*values), (function, values))


class ErrorsOfParametersTest(unittest.TestCase):
    def assert_error(self, function, values, error):
        """The class of the error, by position and by name, and that the values stay as they are."""
        before = copy.deepcopy(values)
        with self.assertRaises(error, msg=(function, values)) as caught:
            function(*values)
        self.assertIs(type(caught.exception), error, (function, values))
        with self.assertRaises(error, msg=(function, values)):
            function(**dict(zip(inspect.signature(function).parameters, values)))
        self.assertEqual(repr(values), repr(before), (function, values))

    def test_one_wrong_argument(self):
        for function, parameters in functions():
            for index, parameter in enumerate(parameters):
                _, error, wrongs = PARAMETERS[parameter]
                for wrong in wrongs:
                    values = right_values(parameters)
                    values[index] = wrong
                    self.assert_error(function, values, error)

    def test_all_later_ones_wrong_too(self):
        for function, parameters in functions():
            for index, parameter in enumerate(parameters):
                _, error, wrongs = PARAMETERS[parameter]
                for wrong in wrongs:
                    for later in (None, True, -1, [], deep(())):
                        values = right_values(parameters[:index]) + [wrong] + [later] * (len(parameters) - index - 1)
                        self.assert_error(function, values, error)

    def test_places_and_rows_of_unlike_charts(self):
        for chart in LARGE_CHARTS:
            count = len(chart)
            for function in (charts.way, charts.leading, rings.ring_of, rings.depth, rings.entry, rings.children):
                self.assert_error(function, [chart, count], InvalidPlace)
                self.assert_error(function, [chart, -1], InvalidPlace)
            self.assert_error(rings.tree_over, [chart, count], InvalidPlace)
            self.assert_error(charts.after, [chart, count, 0], InvalidPlace)
            self.assert_error(charts.with_next, [chart, count, 0], InvalidPlace)
            self.assert_error(charts.with_next, [chart, count - 1, count], InvalidPlace)
            self.assert_error(charts.renamed, [chart, tuple(range(count + 1))], InvalidRow)
            self.assert_error(charts.renamed, [chart, tuple(range(count - 1))], InvalidRow)
            self.assert_error(charts.behind, [chart, (0,) * (count - 1)], InvalidChart)
            self.assert_error(charts.behind, [chart, (0,) * (count + 1)], InvalidChart)

    def test_a_call_that_raised_leaves_no_trace(self):
        before = charts.step(EAR, 5), rings.rings(EAR)
        for wrong in NOT_NUMBERS:
            self.assert_error(charts.step, [EAR, wrong], InvalidCount)
        self.assertEqual((charts.step(EAR, 5), rings.rings(EAR)), before)

    def test_any_value_is_judged_without_an_error(self):
        for value in ANY_VALUES + NOT_CHARTS + NOT_STRINGS:
            before = copy.deepcopy(value)
            self.assertIs(type(charts.is_chart(value)), bool, value)
            self.assertEqual(repr(value), repr(before))

    def test_any_value_for_any_parameter(self):
        for function, parameters in functions():
            for index in range(len(parameters)):
                for value in ANY_VALUES:
                    values = right_values(parameters)
                    values[index] = value
                    told, found = outcome(function, values)
                    if told == "raised":
                        # A right chart of fewer places may make the places behind it wrong ones.
                        wanted = [PARAMETERS[parameter][1] for parameter in parameters[index:]]
                        self.assertIn(found[0], wanted, (function, values))


class ResultsTest(unittest.TestCase):
    def test_arguments_stay_as_they_are(self):
        for function, values in some_calls():
            before = copy.deepcopy(values)
            function(*values)
            self.assertEqual(values, before, function)

    def test_equal_calls_give_equal_results(self):
        for function, values in some_calls():
            self.assertEqual(outcome(function, values), outcome(function, copy.deepcopy(values)), (function, values))

    def test_results_are_exactly_of_their_kinds(self):
        for function, values in some_calls():
            found = kinds_within(function(*values))
            self.assertLessEqual(found, {int, str, tuple, list, bool, type(None)}, (function, values))
            self.assertEqual(bool in found, function is charts.is_chart, (function, values))
            self.assertEqual(list in found, function in (rings.rings, rings.pieces), (function, values))

    def test_returned_lists_are_new(self):
        for chart in CHARTS:
            for function in (rings.rings, rings.pieces):
                first = function(chart)
                before = list(first)
                first.append((99,))
                first[0] = None
                self.assertEqual(function(chart), before, (function, chart))
                first.clear()
                self.assertEqual(function(chart), before, (function, chart))

    def test_equal_results_in_another_process(self):
        code = "from tests.test_general import told_results; print(told_results())"
        root = os.path.dirname(os.path.dirname(os.path.abspath(__file__)))
        told = set()
        for seed in ("0", "1", "77"):
            surroundings = {**os.environ, "PYTHONHASHSEED": seed, "PYTHONDONTWRITEBYTECODE": "1"}
            run = subprocess.run(
                [sys.executable, "-c", code], cwd=root, env=surroundings, capture_output=True, text=True, check=True
            )
            told.add(run.stdout.strip())
        self.assertEqual(told, {told_results()})


def told_results():
    return repr([outcome(function, values) for function, values in some_calls()])


if __name__ == "__main__":
    unittest.main()
