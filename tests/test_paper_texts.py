"""Points [40] and [41]: papers and their texts."""

import functools
import itertools
import unittest

from everynext.errors import InvalidPaper, InvalidText, NotShown
from everynext.paper_texts import is_paper, paper_text, paper_told
from tests.helpers import (
    BUSHES, CHARTS_OF_TEN, EACH_ITS_OWN, EAR, LONG_WAY, LONG_WAY_TO_TWO, NINETY_DIGITS, NOT_CHARTS, NOT_FITS,
    NOT_PARTS, NOT_ROWS, NOT_STRINGS, ONE, ONE_RING, STAR, all_charts, all_parts, deep, plain_step, plainly_renamed,
    raised_by, told_in_time, walked,
)

ALIKE = ("alike", (1, 0, 0), (1, 0, 1), (1, 0, 2))
ROOT = ("root", (1, 2, 0), 2, (2, 0, 1))
FIT = ("fit", (1, 0, 0, 2), (1, 0, 0), (1, 0, 0, 2))
KEPT = ("kept", (1, 2, 0, 0), ((0,), (1,), (2, 3)))
PAPERS_OF_TEN = [
    ("alike", BUSHES, plainly_renamed(BUSHES, tuple(range(10))[::-1]), tuple(range(10))[::-1]),
    ("root", plain_step(ONE_RING, 7), 7, ONE_RING), ("root", STAR, 1000, STAR), ("root", EACH_ITS_OWN, 10, ONE_RING),
    ("fit", ONE_RING, (1, 0), (1, 0) * 5), ("fit", STAR, ONE, (0,) * 10), ("fit", ONE, EACH_ITS_OWN, (9,)),
    ("fit", LONG_WAY, LONG_WAY, (0,) * 9 + (1,)),
    ("kept", LONG_WAY_TO_TWO, ((0, 2, 4, 6, 8), (1, 3, 5, 7, 9))), ("kept", STAR, (tuple(range(10)),)),
    ("kept", EACH_ITS_OWN, tuple((place,) for place in range(10))),
]
PAPERS = [
    ALIKE, ROOT, FIT, KEPT, ("alike", ONE, ONE, (0,)), ("root", ONE, 1, ONE), ("root", ONE, 1000, ONE),
    ("fit", ONE, ONE, (0,)), ("kept", ONE, ((0,),)), ("root", (0, 0, 0), 100, (0, 0, 1)),
    ("root", (1, 0), 999, (1, 0)),
] + PAPERS_OF_TEN
SIGNS = "0123456789;,arfkx -\n"


def text_of(numbers):
    return "".join(map(str, numbers))


def text_of_parts(parts):
    return ",".join(map(text_of, parts))


# All whole texts of each kind for so many places.

@functools.lru_cache(maxsize=None)
def rows_of_places(length, bound):
    return [text_of(row) for row in itertools.product(range(bound), repeat=length)]


@functools.lru_cache(maxsize=None)
def rows_of_all(length):
    return [text_of(row) for row in itertools.permutations(range(length))]


@functools.lru_cache(maxsize=None)
def parts_of_all(length):
    return [text_of_parts(parts) for parts in all_parts(length)]


COUNTS = [str(count) for count in range(1, 1001)]


def is_chart_text(field):
    return field.isdigit() and len(field) <= 10 and all(int(sign) < len(field) for sign in field)


def wholes(fields):
    """All texts that may stand behind these fields, which are right ones; None for those of any chart."""
    letter = fields[0]
    if len(fields) == 1 or (letter == "f" and len(fields) == 2):
        return None
    count = len(fields[1])
    if letter == "k":
        return parts_of_all(count)
    if letter == "r":
        return COUNTS if len(fields) == 2 else rows_of_places(count, count)
    if letter == "a":
        return rows_of_places(count, count) if len(fields) == 2 else rows_of_all(count)
    return rows_of_places(count, len(fields[2]))


def is_whole(fields, field):
    found = wholes(fields)
    return is_chart_text(field) if found is None else field in found


def begins_a_form(text):
    """Whether some form begins with the text, found by looking through all that may stand in each field."""
    fields = text.split(";")
    if fields[0] not in ("a", "r", "f", "k"):
        return text == ""
    if len(fields) > (3 if fields[0] == "k" else 4):
        return False
    if not all(is_whole(fields[:index], fields[index]) for index in range(1, len(fields) - 1)):
        return False
    if len(fields) == 1:
        return True
    found = wholes(fields[:-1])
    if found is None:
        return fields[-1] == "" or (fields[-1].isdigit() and len(fields[-1]) <= 10)
    return any(whole.startswith(fields[-1]) for whole in found)


def is_form(text):
    fields = text.split(";")
    if fields[0] not in ("a", "r", "f", "k") or len(fields) != (3 if fields[0] == "k" else 4):
        return False
    return all(is_whole(fields[:index], fields[index]) for index in range(1, len(fields)))


def places_of(field):
    return tuple(int(sign) for sign in field)


def paper_of(text):
    """The tuple of a form, be it a paper or not."""
    letter, *fields = text.split(";")
    if letter == "k":
        return "kept", places_of(fields[0]), tuple(places_of(part) for part in fields[1].split(","))
    if letter == "r":
        return "root", places_of(fields[0]), int(fields[1]), places_of(fields[2])
    return {"a": "alike", "f": "fit"}[letter], *map(places_of, fields)


def holds_at(paper, x):
    word, chart, *told = paper
    if word == "root":
        return walked(told[1], x, told[0]) == chart[x]
    if word == "kept":
        part = [part for part in told[0] if x in part][0]
        ahead = [part for part in told[0] if chart[x] in part][0]
        return all(chart[y] in ahead for y in part if y < x)
    return told[0][told[1][x]] == told[1][chart[x]]


def wanted_of(text):
    """What the text tells, or the error that it raises."""
    if not is_form(text):
        # Each beginning of the beginning of a form begins it, too.
        index = 0
        while index < len(text) and begins_a_form(text[:index + 1]):
            index += 1
        return InvalidText, {"index": index}
    paper = paper_of(text)
    faults = [x for x in range(len(paper[1])) if not holds_at(paper, x)]
    return (NotShown, {"count": faults[0]}) if faults else paper


def bent(text):
    """The text cut at each place, and with one sign put in, left out or exchanged."""
    told = {text[:index] for index in range(len(text) + 1)}
    for index in range(len(text) + 1):
        told.add(text[:index] + text[index + 1:])
        for sign in SIGNS:
            told.add(text[:index] + sign + text[index:])
            told.add(text[:index] + sign + text[index + 1:])
    return sorted(told)


class PapersTest(unittest.TestCase):
    def assert_no_paper(self, value):
        self.assertIs(is_paper(value), False, value)
        self.assertEqual(raised_by(self, paper_text, value), (InvalidPaper, {}), value)

    def test_papers(self):
        for paper in PAPERS:
            self.assertIs(is_paper(paper), True, paper)
            self.assertEqual(paper_told(paper_text(paper)), paper)
            self.assertEqual(paper_of(paper_text(paper)), paper)

    def test_texts(self):
        self.assertEqual([paper_text(ALIKE), paper_text(ROOT)], ["a;100;101;102", "r;120;2;201"])
        self.assertEqual([paper_text(FIT), paper_text(KEPT)], ["f;1002;100;1002", "k;1200;0,1,23"])
        self.assertEqual(paper_text(("root", ONE, 1000, ONE)), "r;0;1000;0")
        self.assertEqual(paper_text(("fit", ONE, EACH_ITS_OWN, (9,))), "f;0;0123456789;9")
        self.assertEqual(paper_text(("kept", STAR, (tuple(range(10)),))), "k;7777777777;0123456789")

    def test_all_alike_papers_of_three_places(self):
        for chart, other in itertools.product(all_charts(3)[::2], all_charts(3)):
            for row in itertools.permutations(range(3)):
                right = all(other[row[x]] == row[chart[x]] for x in range(3))
                self.assertIs(is_paper(("alike", chart, other, row)), right)

    def test_all_root_papers_of_three_places(self):
        for chart, other in itertools.product(all_charts(3), repeat=2):
            for count in (1, 2, 3, 6, 1000):
                right = plain_step(other, count) == chart
                self.assertIs(is_paper(("root", chart, count, other)), right)

    def test_all_fit_papers_of_two_places_into_three(self):
        for chart, other in itertools.product(all_charts(2), all_charts(3)):
            for images in itertools.product(range(3), repeat=2):
                right = all(images[chart[x]] == other[images[x]] for x in range(2))
                self.assertIs(is_paper(("fit", chart, other, images)), right)

    def test_all_kept_papers_of_three_places(self):
        for chart, parts in itertools.product(all_charts(3), all_parts(3)):
            label = {x: part for part in parts for x in part}
            right = all(label[chart[x]] == label[chart[y]] for part in parts for x in part for y in part)
            self.assertIs(is_paper(("kept", chart, parts)), right)

    def test_no_papers(self):
        further = [EAR, STAR, (), ("alike",), ("kept",), "k;0;0", NINETY_DIGITS, deep(ALIKE, 35)]
        for value in NOT_CHARTS + NOT_STRINGS + further:
            self.assert_no_paper(value)
        for paper in (ALIKE, ROOT, FIT, KEPT):
            for word in ("alike", "root", "fit", "kept"):
                # What leads one chart over into another one is a fit, too.
                if word != paper[0] and (word, paper[0]) != ("fit", "alike"):
                    self.assert_no_paper((word,) + paper[1:])
            for word in ("", "a", "Alike", "keep", None, True, 0, ("kept",), ["kept"], "alike "):
                self.assert_no_paper((word,) + paper[1:])
            self.assert_no_paper(list(paper))
            self.assert_no_paper((paper,))
            self.assert_no_paper(paper[:-1])
            self.assert_no_paper(paper[1:])
            self.assert_no_paper(paper + (0,))
            self.assert_no_paper(paper + (paper[-1],))
            for wrong in NOT_CHARTS:
                self.assert_no_paper(paper[:1] + (wrong,) + paper[2:])

    def test_bent_in_one_clause(self):
        for wrong in NOT_CHARTS + [(0, 0), (0, 0, 0, 0), (1, 0, 0), ONE]:
            self.assert_no_paper(("alike", (1, 0, 0), wrong, (1, 0, 2)))
            self.assert_no_paper(("root", (1, 2, 0), 2, wrong))
        for wrong in NOT_CHARTS:
            self.assert_no_paper(("fit", (1, 0, 0, 2), wrong, (1, 0, 0, 2)))
        for wrong in NOT_ROWS + [(0, 1, 2), (1, 0, 1), (1, 0), [1, 0, 2], (True, 0, 2), (1, False, 2)]:
            self.assert_no_paper(("alike", (1, 0, 0), (1, 0, 1), wrong))
        for wrong in (0, 1001, 3, -2, True, None, "2", (2,), [2], NINETY_DIGITS, 2 + 10 ** 89, 1):
            self.assert_no_paper(("root", (1, 2, 0), wrong, (2, 0, 1)))
        for wrong in NOT_FITS + [(0, 1, 1, 2), (1, 0, 0, 3), (1, 0, 0), (2, 0, 0, 2), (True, 0, 0, 2)]:
            self.assert_no_paper(("fit", (1, 0, 0, 2), (1, 0, 0), wrong))
        for wrong in NOT_PARTS + [((0,), (1, 2), (3,)), ((0, 1), (2, 3)), ((0, 3), (1, 2))]:
            self.assert_no_paper(("kept", (1, 2, 0, 0), wrong))
        # Of one place each step is the chart, but not each count is one of a paper.
        self.assert_no_paper(("root", ONE, 0, ONE))
        self.assert_no_paper(("root", ONE, 1001, ONE))
        self.assert_no_paper(("root", ONE, True, ONE))
        self.assert_no_paper(("fit", LONG_WAY, LONG_WAY, (0,) * 9 + (2,)))


class TextsTest(unittest.TestCase):
    def assert_told(self, text, wanted):
        if isinstance(wanted[0], str):
            self.assertEqual(paper_told(text), wanted, text)
            self.assertEqual(paper_text(wanted), text)
        else:
            self.assertEqual(raised_by(self, paper_told, text), wanted, text)

    def test_bent_texts(self):
        for paper in PAPERS:
            if len(paper[1]) <= 4 and all(len(part) <= 4 for part in paper[2:] if isinstance(part, tuple)):
                for text in bent(paper_text(paper)):
                    self.assert_told(text, wanted_of(text))

    def test_texts_bent_twice(self):
        for paper in (ALIKE, ROOT, FIT, KEPT):
            for text in bent(paper_text(paper))[::20]:
                for further in bent(text)[::11]:
                    self.assert_told(further, wanted_of(further))

    def test_all_forms_of_two_places(self):
        charts = rows_of_places(2, 2)
        texts = [";".join(["a", *rows]) for rows in itertools.product(charts, charts, rows_of_all(2))]
        texts += [";".join(["r", *rows]) for rows in itertools.product(charts, COUNTS[::99] + ["2", "1000"], charts)]
        texts += [";".join(["f", *rows]) for rows in itertools.product(charts, charts, charts)]
        texts += [
            ";".join(["f", *rows]) for rows in itertools.product(charts, rows_of_places(3, 3), rows_of_places(2, 3))
        ]
        texts += [";".join(["k", *rows]) for rows in itertools.product(charts, parts_of_all(2))]
        for text in texts:
            self.assertTrue(is_form(text), text)
            self.assert_told(text, wanted_of(text))

    def test_all_forms_of_kept_parts(self):
        for chart, parts in itertools.product(rows_of_places(4, 4)[::5], parts_of_all(4)):
            text = ";".join(["k", chart, parts])
            self.assert_told(text, wanted_of(text))

    def test_not_shown(self):
        for text, count in (
            ("f;120;10;010", 2), ("k;2302;01,23", 3), ("a;01;10;01", 0), ("a;00;00;10", 0), ("a;00;11;01", 0),
            ("a;002;000;012", 2), ("r;00;1;01", 1), ("r;10;2;10", 0), ("r;120;1000;201", 0), ("r;012;999;012", None),
            ("f;0;10;1", 0), ("k;01;01", None), ("k;1200;01,23", 1), ("k;1230;01,2,3", 1), ("k;0012;0,13,2", 3),
            ("k;0123456788;01234567,89", None), ("k;0123456780;01234567,89", 9), ("k;0000000008;0,12345678,9", None),
            ("k;0000000009;0,123456789", 9), ("f;0000000001;01;0000000001", 9), ("f;0012345678;01;0000000000", None),
        ):
            if count is None:
                self.assertEqual(paper_text(paper_told(text)), text)
            else:
                self.assertEqual(raised_by(self, paper_told, text), (NotShown, {"count": count}), text)

    def test_no_forms(self):
        for text, index in (
            ("", 0), ("a", 1), ("x", 0), (";", 0), ("A;0;0;0", 0), (" a;0;0;0", 0), ("a0", 1), ("a;", 2), ("a;;", 2),
            ("a;x", 2), ("a;1", 3), ("a;1;", 3), ("a;13;", 4), ("a;00000000000", 12), ("a;9", 3), ("a;9;", 3),
            ("a;9000000000;", 13), ("a;0;0;0;", 7), ("a;0;0;0 ", 7), ("a;0;1", 4), ("a;0;00", 5), ("a;01;0;", 6),
            ("a;120;13", 7), ("a;012;012;00", 11), ("a;012;012;0123", 13), ("a;10;10;1", 9),
            ("r;0;0", 4), ("r;0;01;0", 4), ("r;0;1001", 7), ("r;0;1001;0", 7), ("r;0;101;0", None), ("r;0;1010", 7),
            ("r;0;10000", 8), ("r;0;999", 7), ("r;0;", 4), ("r;0;;0", 4), ("r;0;1;1", 6), ("r;0;1;00", 7),
            ("r;0;-1;0", 4),
            ("f;0;13;", 6), ("f;0;10;2", 7), ("f;0;10;01", 8), ("f;0;1", 5), ("f;120;0;000;", 11), ("f;1;0", 3),
            ("k;100;0,2", 8), ("k;100;1", 6), ("k;100;0,,", 8), ("k;100;02,1,", 10), ("k;100;021", 8), ("k;100;00", 7),
            ("k;100;0,1", 9), ("k;100;", 6), ("k;100;0;", 7), ("k;100;02,", 9), ("k;100;012,", 9), ("k;100;0,21", 8),
            ("k;0;0,", 5), ("k;0;0;", 5), ("k;0;,", 4), ("k;0123456789;0,1,2,3,4,5,6,7,8,98", 32),
            ("k;0123456789;0,1,2,3,4,5,6,7,8,9", None), ("k;0123456789;0123456789,", 23),
        ):
            if index is None:
                self.assertEqual(paper_text(paper_told(text)), text)
            else:
                self.assertEqual(raised_by(self, paper_told, text), (InvalidText, {"index": index}), text)

    def test_no_strings(self):
        for wrong in NOT_STRINGS + [ALIKE, KEPT]:
            self.assertEqual(raised_by(self, paper_told, wrong), (InvalidText, {"index": 0}), wrong)

    def test_long_texts_in_time(self):
        for text, index in (
            ("x" * 20000, 0), ("a;" * 10000, 2), ("0" * 20000, 0), ("k;0;" + "0" * 19996, 5),
            ("k;0;0" + "," * 19995, 5),
            ("r;0;" + "1" * 19996, 7), ("r;0;1000;0" + "0" * 19990, 10), ("f;" + "0" * 19998, 12),
        ):
            found = told_in_time(self, raised_by, self, paper_told, text)
            self.assertEqual(found, (InvalidText, {"index": index}))

    def test_ten_places_in_time(self):
        for chart in CHARTS_OF_TEN:
            for paper in (
                ("alike", chart, chart, tuple(range(10))), ("root", plain_step(chart, 1000), 1000, chart),
                ("fit", chart, chart, chart), ("kept", chart, tuple((place,) for place in range(10))),
            ):
                self.assertIs(told_in_time(self, is_paper, paper), True, paper)
                self.assertEqual(told_in_time(self, paper_told, paper_text(paper)), paper)


if __name__ == "__main__":
    unittest.main()
