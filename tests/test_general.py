"""Points [2], [3] and [4], and the interface: names, errors in their order, new lists, equal results."""

import copy
import functools
import inspect
import os
import subprocess
import sys
import unittest

from everynext import (
    along, chart_counts, charts, clues, codes, console, errors, fits, joining, keeping, kept_lots, likenesses, live,
    marked_trees, paper_texts, rings, roots,
)
from everynext.errors import (
    Clash, InvalidChart, InvalidClues, InvalidCode, InvalidCount, InvalidFit, InvalidLengths, InvalidLot, InvalidLots,
    InvalidPaper, InvalidParts, InvalidPlace, InvalidRow, InvalidText, InvalidTree, InvalidWishes, NoFit, NoRoot,
    NotAlike, NotAlong, NotForest, NotKeeping, NotKept, NotShown, Refused, TooMany,
)
from tests.helpers import (
    CHARTS, CHARTS_OF_TEN, EAR, LARGE_CHARTS, NINETY_DIGITS, NOT_CHARTS, NOT_CLUES, NOT_CLUES_OF_ONE, NOT_CODES,
    NOT_FITS, NOT_LENGTHS, NOT_LOTS, NOT_LOTS_OF_LOTS, NOT_NUMBERS, NOT_PARTS, NOT_PLACES, NOT_ROWS, NOT_STRINGS,
    NOT_TOLD_ROWS, NOT_TREES, NOT_WISHES, ONE_RING, deep, not_within, plain_chart_code, plain_step, plainly_renamed,
    state_of, told_in_time,
)

INTERFACE = {
    charts: {
        "is_chart": ["value"], "step": ["chart", "number"], "after": ["chart", "place", "number"],
        "way": ["chart", "place"], "leading": ["chart", "place"], "image": ["chart"],
        "behind": ["chart", "other_chart"], "renamed": ["chart", "row"], "with_next": ["chart", "place", "other_place"],
        "chart_text": ["chart"], "chart_told": ["text"],
    },
    rings: {
        "rings": ["chart"], "ring_of": ["chart", "place"], "on_rings": ["chart"], "depth": ["chart", "place"],
        "depths": ["chart"], "height": ["chart"], "period": ["chart"], "entry": ["chart", "place"],
        "pieces": ["chart"], "children": ["chart", "place"], "tree_over": ["chart", "place"],
        "first_repeat": ["chart", "number"],
    },
    codes: {
        "tree_code": ["chart", "place"], "piece_code": ["chart", "place"], "chart_code": ["chart"],
        "is_code": ["value"], "chart_by_code": ["code"], "least_alike": ["chart"],
        "are_alike": ["chart", "other_chart"], "alike_row": ["chart", "other_chart"],
        "is_alike_row": ["chart", "other_chart", "value"], "nth_alike_row": ["chart", "other_chart", "number"],
        "alike_count": ["chart"], "kind_count": ["count"], "kinds": ["count"],
    },
    keeping: {
        "is_keeping": ["chart", "value"], "keep_count": ["chart"], "keep_shares": ["chart"],
        "nth_keeping": ["chart", "number"], "keeping_number": ["chart", "row"], "like_lots": ["chart"],
        "own_lot": ["chart"], "row_leading": ["chart", "place", "other_place"], "stay_count": ["chart", "lot"],
        "moved": ["chart", "row", "lot"], "lot_count": ["chart", "lot"],
    },
    roots: {
        "is_root": ["chart", "power", "value"], "root_count": ["chart", "power"],
        "nth_root": ["chart", "power", "number"], "root_number": ["chart", "power", "other_chart"],
        "first_root": ["chart", "power"], "rooted": ["chart", "steps"], "fitting": ["length", "power"],
        "barred_lengths": ["chart", "power"], "ring_root_count": ["chart", "power"], "step_root": ["chart", "power"],
    },
    along: {
        "goes_along": ["chart", "value"], "hitch": ["chart", "other_chart"], "along_count": ["chart"],
        "nth_along": ["chart", "number"], "along_number": ["chart", "other_chart"],
        "count_through": ["chart", "wishes"], "first_through": ["chart", "wishes"], "goals": ["chart", "place"],
        "goes_to": ["chart", "place", "goal"], "going_parts": ["chart"], "fewest_values": ["chart"],
        "narrowest": ["chart"], "step_number": ["chart", "other_chart"], "step_count": ["chart"],
    },
    kept_lots: {
        "is_kept": ["chart", "lot"], "kept_over": ["chart", "lot"], "kept_within": ["chart", "lot"],
        "coming_to": ["chart", "lot"], "kept_counts": ["chart"], "nth_kept": ["chart", "number"],
        "kept_number": ["chart", "lot"], "told_by": ["chart", "lot"], "kept_above": ["chart", "lot"],
        "kept_below": ["chart", "lot"], "kept_rows": ["chart", "lot", "other_lot"],
    },
    likenesses: {
        "is_parts": ["chart", "value"], "are_kept": ["chart", "parts"], "least_together": ["chart", "lots"],
        "greatest_within": ["chart", "parts"], "steps_apart": ["chart", "parts", "place", "other_place"],
        "joined_parts": ["chart", "parts", "other_parts"], "met_parts": ["chart", "parts", "other_parts"],
        "together_after": ["chart", "number"], "drawn_together": ["chart", "lot"], "chart_of": ["chart", "parts"],
        "lifted_parts": ["chart", "parts", "upper"], "parts_above": ["chart", "parts"], "kept_parts": ["chart"],
        "kept_parts_count": ["chart"],
    },
    marked_trees: {
        "is_tree": ["value"], "tree_way": ["tree", "place", "other_place"],
        "chart_by_marks": ["tree", "place", "other_place"], "marked_tree": ["chart"], "leaf_row": ["tree"],
        "tree_by": ["many", "told_row"], "tree_count": ["many"], "tree_number": ["tree"],
        "nth_tree": ["many", "number"], "is_forest": ["chart"], "forest_of": ["chart"], "forest_row": ["chart"],
        "forest_by": ["many", "lot", "told_row"], "forest_count": ["many", "lot"],
    },
    chart_counts: {
        "ring_place_counts": ["many"], "reached_counts": ["many"], "piece_counts": ["many"], "height_counts": ["many"],
        "period_counts": ["many"], "ring_length_count": ["many", "lengths"], "depth_totals": ["many"],
        "returning_count": ["many", "number", "count"], "nth_by_ring_places": ["many", "count", "number"],
        "ring_places_rank": ["chart"], "nth_by_reached": ["many", "count", "number"], "reached_rank": ["chart"],
    },
    fits: {
        "is_fit": ["chart", "other_chart", "value"], "fit_count": ["chart", "other_chart"],
        "nth_fit": ["chart", "other_chart", "number"], "fit_number": ["chart", "other_chart", "fit"],
        "first_fit": ["chart", "other_chart"], "all_fits": ["chart", "other_chart"],
        "wished_count": ["chart", "other_chart", "wishes"], "first_wished": ["chart", "other_chart", "wishes"],
        "fit_image": ["chart", "other_chart", "fit"], "fit_split": ["chart", "other_chart", "fit"],
        "onto_count": ["chart", "other_chart"], "can_lay": ["chart", "lot"], "core": ["chart"],
        "go_both_ways": ["chart", "other_chart"],
    },
    clues: {
        "meets": ["chart", "clues"], "is_bar": ["many", "value"], "clash": ["many", "clues"],
        "meeting_count": ["many", "clues"], "nth_meeting": ["many", "clues", "number"],
        "is_sure": ["many", "clues", "clue"], "sure_nexts": ["many", "clues"],
        "may_be": ["many", "clues", "place", "number"], "sure_on_rings": ["many", "clues"],
        "may_be_on_rings": ["many", "clues"], "depth_bounds": ["many", "clues", "place"],
        "spare_clues": ["many", "clues"], "tells_all": ["many", "clues"],
    },
    joining: {
        "steps_to": ["chart", "place", "other_place"], "comers": ["chart", "place"],
        "both_come": ["chart", "place", "other_place"], "first_common": ["chart", "place", "other_place"],
        "together_steps": ["chart", "place", "other_place"], "together_counts": ["chart"],
        "together_parts": ["chart"], "beside": ["chart", "other_chart"],
        "hung": ["chart", "place", "other_chart", "other_place"], "exchanged": ["chart", "place", "other_place"],
        "stepped_in": ["chart", "place"], "less_place": ["chart", "place"], "turned": ["chart"],
    },
    paper_texts: {"is_paper": ["value"], "paper_text": ["value"], "paper_told": ["text"]},
}
# The classes, the parameters with which they are called, and the methods that each of them has itself.
CLASSES = {
    live.Live: (["chart"], {
        "come": ["mark"], "leave": ["mark"], "lead": ["mark", "other_mark"], "exchange": ["mark", "other_mark"],
        "step_in": ["mark"], "turn": [], "go": ["number"], "send": ["mark"], "walk": ["number"], "rings": [],
        "depths": [], "sizes": [], "moments": [], "would": ["deed"], "undo": [], "begin": [], "keep": [], "drop": [],
        "twin": [],
    }),
    live.WholeLive: (["chart"], {}),
    console.Console: ([], {"execute": ["command"]}),
}
# For each parameter a right value (beside a chart of four places), the error, and wrong values.
PARAMETERS = {
    "value": (EAR, None, []),
    "chart": (EAR, InvalidChart, NOT_CHARTS),
    "other_chart": ((3, 3, 1, 0), InvalidChart, NOT_CHARTS),
    "place": (3, InvalidPlace, NOT_PLACES),
    "other_place": (1, InvalidPlace, NOT_PLACES),
    "row": ((3, 1, 0, 2), InvalidRow, NOT_ROWS),
    "number": (7, InvalidCount, NOT_NUMBERS),
    "text": ("1212", InvalidText, NOT_STRINGS + ["", "x", "13", "1x", "0" * 11]),
    "lot": ((0, 3), InvalidLot, NOT_LOTS),
    "count": (3, InvalidCount, not_within(10)),
    "code": ((((((),), ((),))),), InvalidCode, NOT_CODES),
    "power": (3, InvalidCount, not_within(1000)),
    "length": (2, InvalidCount, not_within(10)),
    "steps": (7, InvalidCount, not_within(60)),
    "goal": (2, InvalidPlace, NOT_PLACES),
    "wishes": (((0, 3), (2, 1)), InvalidWishes, NOT_WISHES),
    "other_lot": ((1, 2), InvalidLot, NOT_LOTS),
    "parts": (((0, 3), (1, 2)), InvalidParts, NOT_PARTS),
    "other_parts": (((0, 1), (2, 3)), InvalidParts, NOT_PARTS),
    "lots": (((0, 3), (), (0, 3)), InvalidLots, NOT_LOTS_OF_LOTS),
    # Parts of a chart of two places, as there are two parts.
    "upper": (((0,), (1,)), InvalidParts, NOT_PARTS + [((0,),), ((1,),), ((0, 1), (1,)), ((0,), (1,), (2,))]),
    "many": (4, InvalidCount, not_within(10)),
    "tree": (((0, 1), (0, 3), (2, 3)), InvalidTree, NOT_TREES),
    "told_row": ((1, 0), InvalidRow, NOT_TOLD_ROWS),
    "lengths": ((1, 2), InvalidLengths, NOT_LENGTHS),
    "fit": ((3, 0, 3, 1), InvalidFit, NOT_FITS),
    "clues": (((0, 1, 1), (2, 3, 1)), InvalidClues, NOT_CLUES),
    "clue": ((3, 2, 1), InvalidClues, NOT_CLUES_OF_ONE),
}
# Where the other chart must have as many places as the chart, these are wrong, too.
OTHER_NUMBERS_OF_PLACES = [(0,), (1, 0), (0, 1, 2), (0,) * 5, ONE_RING]
AS_LONG = (charts.behind, roots.root_number, along.hitch, along.along_number, along.step_number)
# Where a lot must have a place.
NOT_EMPTY = (likenesses.drawn_together, marked_trees.forest_by, marked_trees.forest_count, fits.can_lay)
# Where a count may be above all bounds.
WITHOUT_BOUND = (chart_counts.returning_count, chart_counts.nth_by_ring_places, chart_counts.nth_by_reached)
# Where the other place must be another one than the right place.
UNLIKE_PLACES = (joining.exchanged,)
# The errors of points, which come behind those of all parameters.
ERRORS_OF_POINTS = {
    codes.least_alike: [TooMany], codes.alike_row: [NotAlike], codes.nth_alike_row: [NotAlike], codes.kinds: [TooMany],
    keeping.keeping_number: [NotKeeping], keeping.moved: [NotKeeping],
    roots.root_count: [TooMany], roots.nth_root: [TooMany], roots.root_number: [Refused, TooMany],
    roots.first_root: [TooMany, NoRoot], roots.rooted: [TooMany],
    along.along_number: [NotAlong], kept_lots.kept_number: [NotKept], kept_lots.told_by: [NotKept],
    kept_lots.kept_above: [NotKept], kept_lots.kept_below: [NotKept], kept_lots.kept_rows: [NotKept],
    likenesses.chart_of: [NotKept], likenesses.lifted_parts: [NotKept], likenesses.parts_above: [NotKept],
    likenesses.kept_parts: [TooMany], likenesses.kept_parts_count: [TooMany], marked_trees.forest_row: [NotForest],
    fits.first_fit: [NoFit], fits.all_fits: [TooMany], clues.is_bar: [TooMany], clues.clash: [TooMany],
    clues.meeting_count: [TooMany], clues.nth_meeting: [TooMany], clues.is_sure: [TooMany, Clash],
    clues.sure_nexts: [TooMany, Clash], clues.may_be: [TooMany, Clash], clues.sure_on_rings: [TooMany, Clash],
    clues.may_be_on_rings: [TooMany, Clash], clues.depth_bounds: [TooMany, Clash],
    clues.spare_clues: [TooMany, Clash], clues.tells_all: [TooMany, Clash],
    joining.beside: [TooMany], joining.hung: [TooMany], joining.stepped_in: [TooMany],
    joining.less_place: [InvalidPlace], paper_texts.paper_text: [InvalidPaper], paper_texts.paper_told: [NotShown],
}
PAPERS = (paper_texts.is_paper, paper_texts.paper_text, paper_texts.paper_told)
JUDGES = [
    charts.is_chart, codes.is_code, codes.are_alike, codes.is_alike_row, keeping.is_keeping, roots.is_root,
    along.goes_along, along.goes_to, kept_lots.is_kept, likenesses.is_parts, likenesses.are_kept,
    marked_trees.is_tree, marked_trees.is_forest, fits.is_fit, fits.can_lay, fits.go_both_ways, clues.meets,
    clues.is_bar, clues.is_sure, clues.tells_all, paper_texts.is_paper,
]
TELL_LISTS = [
    rings.rings, rings.pieces, codes.kinds, keeping.like_lots, roots.rooted, roots.fitting, roots.barred_lengths,
    kept_lots.kept_counts, kept_lots.kept_above, kept_lots.kept_below, likenesses.parts_above, likenesses.kept_parts,
    chart_counts.ring_place_counts, chart_counts.reached_counts, chart_counts.piece_counts, chart_counts.height_counts,
    chart_counts.period_counts, chart_counts.depth_totals, fits.all_fits, clues.spare_clues, joining.together_counts,
]
ANY_VALUES = [
    0, 1, -1, NINETY_DIGITS, -NINETY_DIGITS, True, False, None, "", "0", "x" * 20000, (), [], (0,), [0], EAR, list(EAR),
    deep(0), deep([]), (0,) * 3000, [0] * 3000, [[1], (2, [3])],
]


def functions():
    return [
        (getattr(module, name), parameters)
        for module, listed in INTERFACE.items()
        for name, parameters in listed.items()
    ]


def right_values(parameters):
    return [PARAMETERS[parameter][0] for parameter in parameters]


def parts_by(labels):
    return tuple(sorted({tuple(x for x, held in enumerate(labels) if held == label) for label in labels}))


def outcome(function, values):
    """What a call returns or raises, in a form that can be compared."""
    try:
        return "returned", function(*values)
    except ValueError as error:
        return "raised", state_of(error)


def kinds_within(value):
    if isinstance(value, (tuple, list)):
        return {type(value)}.union(*[kinds_within(item) for item in value])
    return {type(value)}


def wrong_values(function, parameter):
    wrongs = PARAMETERS[parameter][2]
    if parameter == "other_chart" and function in AS_LONG:
        return wrongs + OTHER_NUMBERS_OF_PLACES
    if parameter == "lot" and function in NOT_EMPTY:
        return wrongs + [()]
    if parameter == "count" and function in WITHOUT_BOUND:
        return NOT_NUMBERS + [0]
    if parameter == "other_place" and function in UNLIKE_PLACES:
        return wrongs + [PARAMETERS["place"][0]]
    return wrongs


def values_for(chart, place):
    """For each parameter a right value beside the chart that hangs on the place."""
    count = len(chart)
    backwards = tuple(range(count))[::-1]
    # What hangs on even places is kept, unless what is added to it is not.
    kept = tuple(sorted({plain_step(chart, number)[place] for number in range(count)}))
    parts = parts_by(plain_step(chart, place + 1) if place % 2 == 0 else [x % (place + 1) for x in range(count)])
    lot = kept if place % 2 == 0 else tuple(range(1, count, place + 1))
    return {
        "chart": chart, "place": place, "other_place": count - 1 - place, "value": backwards, "row": backwards,
        "other_chart": plainly_renamed(chart, backwards), "number": place + 3, "text": "1212",
        "lot": lot, "other_lot": tuple(sorted({*lot, count - 1})), "count": place + 1, "code": plain_chart_code(chart),
        "power": place + 1, "length": place + 1, "steps": place + 9, "goal": count - 1 - place,
        "wishes": ((place, chart[place]),), "parts": parts, "other_parts": parts_by([x // 2 for x in range(count)]),
        "lots": (lot, (), (0, count - 1) if count > 1 else (0,)), "upper": (tuple(range(len(parts))),),
        "tree": tuple((max(0, x - place - 1), x) for x in range(1, count)), "many": place + 1,
        "told_row": (place,) * (place - 1), "lengths": (1,) * (place // 2) + (place // 2 + 1,), "fit": backwards,
        "clues": ((0, 1, place), (place, 2, chart[chart[place]])) if place > 0 else ((0, 1, chart[0]),),
        "clue": (place, 3, 0),
    }


def values_for_forests(place):
    """The same for the functions whose lots are of so many places."""
    lot = tuple(range(0, place + 1, 2))
    return {"many": place + 1, "lot": lot, "told_row": (0,) * (place + 1 - len(lot))}


def values_for_clues(place):
    """The same for the functions that are asked about clues for so many places."""
    told = ((0, 1, place), (place, 2, 0)) if place > 0 else ((0, 7, 0),)
    return {"many": place + 1, "clues": told, "clue": (place, 3, 0), "place": place, "number": 3}


def values_for_papers(chart, place):
    """The same for the functions of papers: a paper and its text, unless the root is none."""
    text = charts.chart_text(chart)
    if place % 2 == 0:
        return {"value": ("fit", chart, chart, plain_step(chart, place)), "text": f"r;{text};{place + 1};{text}"}
    straight = "0123456789"[:len(chart)]
    return {"value": ("kept", chart, joining.together_parts(chart)), "text": f"a;{text};{text};{straight}"}


HANG_ON_PLACE = [
    "place", "lot", "count", "power", "length", "steps", "wishes", "parts", "lots", "tree", "many", "told_row", "clues",
]


def spoil(value):
    """Changes a list and the lists inside of it."""
    if isinstance(value, (tuple, list)):
        for held in value:
            spoil(held)
    if isinstance(value, list):
        value.append((99,))
        value[0] = None
        value.pop()


def some_calls(within=CHARTS):
    """Calls of all functions with each chart, each place and some numbers."""
    for function, parameters in functions():
        with_charts = parameters[0] in ("chart", "value", "code", "tree") or function is paper_texts.paper_told
        with_places = set(parameters) & set(HANG_ON_PLACE) or function in PAPERS
        for chart in within if with_charts else [ONE_RING]:
            for place in range(len(chart)) if with_places else [0]:
                values = values_for(chart, place)
                if function in PAPERS:
                    values = values_for_papers(chart, place)
                if "many" in parameters and "lot" in parameters:
                    values = values_for_forests(place)
                if "many" in parameters and "clues" in parameters:
                    values = values_for_clues(place)
                yield function, [values[parameter] for parameter in parameters]


class InterfaceTest(unittest.TestCase):
    def test_names_and_parameters(self):
        for module, listed in INTERFACE.items():
            for name, parameters in listed.items():
                function = getattr(module, name)
                self.assertEqual(list(inspect.signature(function).parameters), parameters, name)
                self.assertEqual(function.__module__, module.__name__, name)

    def test_classes_and_methods(self):
        for cls, (parameters, methods) in CLASSES.items():
            self.assertEqual(list(inspect.signature(cls).parameters), parameters, cls)
            for name, wanted in methods.items():
                method = vars(cls)[name]
                self.assertEqual(list(inspect.signature(method).parameters)[1:], wanted, (cls, name))
        self.assertEqual((live.Live.__module__, live.WholeLive.__module__), ("everynext.live",) * 2)
        self.assertEqual(console.Console.__module__, "everynext.console")
        self.assertEqual(live.WholeLive.__bases__, (live.Live,))
        self.assertIn("__eq__", vars(live.Live))

    def test_replay_and_its_parameters(self):
        found = inspect.signature(live.replay).parameters
        self.assertEqual(list(found), ["chart", "deeds", "whole"])
        self.assertEqual((found["whole"].kind, found["whole"].default), (inspect.Parameter.KEYWORD_ONLY, False))
        self.assertEqual(live.replay.__module__, "everynext.live")

    def test_fields_of_live_charts(self):
        for cls in (live.Live, live.WholeLive):
            told = cls(EAR)
            fields = [told.chart, told.start, told.marks, told.next_mark, told.walker, told.deeds, told.depth]
            self.assertEqual(fields, [EAR, EAR, (0, 1, 2, 3), 4, 0, [], 0])

    def test_classes_are_defined_in_errors(self):
        for value in vars(errors).values():
            if isinstance(value, type):
                self.assertEqual(value.__module__, "everynext.errors")

    def test_arguments_by_name(self):
        for function, values in some_calls():
            parameters = list(inspect.signature(function).parameters)
            by_name = functools.partial(function, **dict(zip(parameters[::-1], values[::-1])))
            self.assertEqual(outcome(by_name, []), outcome(function, values), (function, values))


class ErrorsOfParametersTest(unittest.TestCase):
    def assert_error(self, function, values, error):
        """The class of the error, by position and by name, and that the values stay as they are."""
        before = copy.deepcopy(values)
        with self.assertRaises(error, msg=(function, values)) as caught:
            function(*values)
        self.assertIs(type(caught.exception), error, (function, values))
        with self.assertRaises(error, msg=(function, values)):
            function(**dict(zip(inspect.signature(function).parameters, values)))
        self.assertEqual(repr(values), repr(before), (function, values))

    def test_one_wrong_argument(self):
        for function, parameters in functions():
            for index, parameter in enumerate(parameters):
                error = PARAMETERS[parameter][1]
                for wrong in wrong_values(function, parameter):
                    values = right_values(parameters)
                    values[index] = wrong
                    self.assert_error(function, values, error)

    def test_all_later_ones_wrong_too(self):
        for function, parameters in functions():
            for index, parameter in enumerate(parameters):
                error = PARAMETERS[parameter][1]
                for wrong in wrong_values(function, parameter):
                    for later in (None, True, -1, [], deep(())):
                        values = right_values(parameters[:index]) + [wrong] + [later] * (len(parameters) - index - 1)
                        self.assert_error(function, values, error)

    def test_places_and_rows_of_unlike_charts(self):
        for chart in LARGE_CHARTS:
            count = len(chart)
            for function in (charts.way, charts.leading, rings.ring_of, rings.depth, rings.entry, rings.children):
                self.assert_error(function, [chart, count], InvalidPlace)
                self.assert_error(function, [chart, -1], InvalidPlace)
            self.assert_error(rings.tree_over, [chart, count], InvalidPlace)
            self.assert_error(charts.after, [chart, count, 0], InvalidPlace)
            self.assert_error(charts.with_next, [chart, count, 0], InvalidPlace)
            self.assert_error(charts.with_next, [chart, count - 1, count], InvalidPlace)
            self.assert_error(charts.renamed, [chart, tuple(range(count + 1))], InvalidRow)
            self.assert_error(charts.renamed, [chart, tuple(range(count - 1))], InvalidRow)
            self.assert_error(charts.behind, [chart, (0,) * (count - 1)], InvalidChart)
            self.assert_error(charts.behind, [chart, (0,) * (count + 1)], InvalidChart)
            self.assert_error(codes.tree_code, [chart, count], InvalidPlace)
            self.assert_error(keeping.row_leading, [chart, 0, count], InvalidPlace)
            self.assert_error(keeping.stay_count, [chart, (0, count)], InvalidLot)
            self.assert_error(keeping.keeping_number, [chart, tuple(range(count + 1))], InvalidRow)
            self.assert_error(roots.root_number, [chart, 2, (0,) * (count - 1)], InvalidChart)
            self.assert_error(along.goes_to, [chart, 0, count], InvalidPlace)
            self.assert_error(along.count_through, [chart, ((0, count),)], InvalidWishes)
            self.assert_error(along.first_through, [chart, ((count, 0),)], InvalidWishes)
            self.assert_error(kept_lots.kept_rows, [chart, (), (count,)], InvalidLot)
            self.assert_error(likenesses.least_together, [chart, ((0, count),)], InvalidLots)
            self.assert_error(likenesses.are_kept, [chart, (tuple(range(count + 1)),)], InvalidParts)
            self.assert_error(likenesses.are_kept, [chart, (tuple(range(count - 1)),)], InvalidParts)
            self.assert_error(fits.fit_number, [chart, chart, tuple(range(count + 1))], InvalidFit)
            self.assert_error(fits.fit_image, [chart, chart, tuple(range(count - 1))], InvalidFit)
            self.assert_error(fits.wished_count, [chart, ONE_RING, ((count, 0),)], InvalidWishes)
            self.assert_error(fits.first_wished, [ONE_RING, chart, ((0, count),)], InvalidWishes)
            self.assert_error(clues.meets, [chart, ((count, 0, 0),)], InvalidClues)
            self.assert_error(clues.meets, [chart, ((0, 0, count),)], InvalidClues)

    def test_a_call_that_raised_leaves_no_trace(self):
        before = charts.step(EAR, 5), rings.rings(EAR)
        for wrong in NOT_NUMBERS:
            self.assert_error(charts.step, [EAR, wrong], InvalidCount)
        self.assertEqual((charts.step(EAR, 5), rings.rings(EAR)), before)

    def test_any_value_is_judged_without_an_error(self):
        for value in ANY_VALUES + NOT_CHARTS + NOT_STRINGS + NOT_ROWS + NOT_CODES + NOT_PARTS + NOT_TREES + NOT_CLUES:
            before = copy.deepcopy(value)
            for function, parameters in functions():
                if "value" in parameters and function in JUDGES:
                    told = function(*right_values(parameters[:-1]), value)
                    self.assertIs(type(told), bool, (function, value))
                    self.assertEqual(repr(value), repr(before), function)

    def test_any_value_for_any_parameter(self):
        for function, parameters in functions():
            for index in range(len(parameters)):
                for value in ANY_VALUES:
                    values = right_values(parameters)
                    values[index] = value
                    told, found = outcome(function, values)
                    if told == "raised":
                        # A right chart of fewer places may make the places behind it wrong ones.
                        wanted = [PARAMETERS[parameter][1] for parameter in parameters[index:]]
                        wanted += ERRORS_OF_POINTS.get(function, [])
                        self.assertIn(found[0], wanted, (function, values))


class ResultsTest(unittest.TestCase):
    def test_arguments_stay_as_they_are(self):
        for function, values in some_calls():
            before = copy.deepcopy(values)
            outcome(function, values)
            self.assertEqual(repr(values), repr(before), function)

    def test_equal_calls_give_equal_results(self):
        for function, values in some_calls():
            self.assertEqual(outcome(function, values), outcome(function, copy.deepcopy(values)), (function, values))

    def test_results_are_exactly_of_their_kinds(self):
        for function, values in some_calls():
            told, found = outcome(function, values)
            if told == "returned":
                kinds = kinds_within(found)
                self.assertLessEqual(kinds, {int, str, tuple, list, bool, type(None)}, (function, values))
                self.assertEqual(bool in kinds, function in JUDGES, (function, values))
                self.assertEqual(type(found) is list, function in TELL_LISTS, (function, values))

    def test_returned_lists_are_new(self):
        for function, values in some_calls():
            if function in TELL_LISTS:
                told, found = outcome(function, values)
                before = copy.deepcopy(found)
                if told == "returned":
                    spoil(found)
                    self.assertEqual(outcome(function, values), ("returned", before), (function, values))

    def test_ten_places_in_time(self):
        for function, values in some_calls(CHARTS_OF_TEN):
            told_in_time(self, outcome, function, values)

    def test_equal_results_in_another_process(self):
        code = "from tests.test_general import told_results; print(told_results())"
        root = os.path.dirname(os.path.dirname(os.path.abspath(__file__)))
        told = set()
        for seed in ("0", "1", "77"):
            surroundings = {**os.environ, "PYTHONHASHSEED": seed, "PYTHONDONTWRITEBYTECODE": "1"}
            run = subprocess.run(
                [sys.executable, "-c", code], cwd=root, env=surroundings, capture_output=True, text=True, check=True
            )
            told.add(run.stdout.strip())
        self.assertEqual(told, {told_results()})


def told_by_consoles():
    """What a console tells of each chart behind some deeds."""
    told = []
    for chart in CHARTS:
        commands = console.Console()
        text = charts.chart_text(chart)
        for command in (
            f"chart a {text}", "stepin 0", "go 7", "turn", "leave 1", "lead 0 0", f"whole b {text}", "use a", "rings",
            "sizes", "moments", "walk 9", "paper", "same b", "journal",
        ):
            told.append(outcome(commands.execute, [command]))
    return told


def told_results():
    return repr([outcome(function, values) for function, values in some_calls()] + told_by_consoles())


if __name__ == "__main__":
    unittest.main()
