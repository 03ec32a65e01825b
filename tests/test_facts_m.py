"""The facts M1 to M4, over all charts of up to four places and some of up to ten."""

import itertools
import unittest

from everynext.codes import alike_row, are_alike, chart_code, nth_alike_row
from everynext.console import Console
from everynext.errors import InvalidText, NotShown
from everynext.fits import all_fits, fit_count, is_fit
from everynext.joining import together_parts
from everynext.likenesses import kept_parts
from everynext.paper_texts import is_paper, paper_text, paper_told
from everynext.roots import nth_root, root_count, rooted
from tests.helpers import (
    CHARTS_OF_FOUR, FACT_CHARTS, LARGE_CHARTS, SMALL_CHARTS, one_of_each_kind, plainly_renamed, some_rows,
)
from tests.plain_console import drawn_command
from tests.plain_lives import Draw

KINDS = [chart for count in range(1, 5) for chart in one_of_each_kind(count)]
QUESTIONS = ["show", "marks", "depths", "walk 12", "walker", "rings", "sizes", "moments", "paper", "journal"]


def some_papers():
    """Papers of all words, made by the other files."""
    for chart in SMALL_CHARTS + CHARTS_OF_FOUR[::3]:
        for other in KINDS:
            if fit_count(chart, other) <= 100:
                yield from [("fit", chart, other, images) for images in all_fits(chart, other)]
            if are_alike(chart, other):
                yield "alike", chart, other, alike_row(chart, other)
        for parts in kept_parts(chart):
            yield "kept", chart, parts
        for power in rooted(chart, 6):
            for number in range(root_count(chart, power)):
                yield "root", chart, power, nth_root(chart, power, number)


class FactsTest(unittest.TestCase):
    def test_m1(self):
        for paper in some_papers():
            self.assertTrue(is_paper(paper), paper)
            self.assertEqual(paper_told(paper_text(paper)), paper)

    def test_m1_what_is_not_refused(self):
        draw = Draw(3)
        texts = [paper_text(paper) for paper in itertools.islice(some_papers(), 0, None, 37)]
        shown = 0
        for text in texts:
            for _ in range(30):
                at = draw.below(len(text))
                changed = text[:at] + draw.one_of("0123,;arfk") + text[at + draw.below(2):]
                try:
                    paper = paper_told(changed)
                except (InvalidText, NotShown):
                    continue
                shown += 1
                self.assertTrue(is_paper(paper), changed)
                self.assertEqual(paper_text(paper), changed)
        self.assertGreater(shown, 100)

    def test_m2(self):
        for chart in SMALL_CHARTS + CHARTS_OF_FOUR[::3]:
            for other in KINDS:
                if len(other) == len(chart):
                    rows = itertools.permutations(range(len(chart)))
                    papers = [("alike", chart, other, row) for row in rows if is_paper(("alike", chart, other, row))]
                    self.assertEqual(bool(papers), chart_code(chart) == chart_code(other), (chart, other))
                    for paper in papers:
                        self.assertTrue(is_paper(("fit",) + paper[1:]), paper)
                        self.assertTrue(is_fit(*paper[1:]), paper)
        for chart in LARGE_CHARTS:
            for row in some_rows(len(chart)):
                told = plainly_renamed(chart, row)
                for word in ("alike", "fit"):
                    self.assertTrue(is_paper((word, chart, told, row)), chart)
                self.assertTrue(is_paper(("alike", chart, told, nth_alike_row(chart, told, 0))), chart)

    def test_m3(self):
        for chart in FACT_CHARTS:
            paper = ("kept", chart, together_parts(chart))
            self.assertTrue(is_paper(paper), chart)
            self.assertEqual(paper_told(paper_text(paper)), paper)

    def assert_like_its_journal(self, console):
        other = Console()
        other.execute("run " + console.execute("journal"))
        for question in QUESTIONS:
            self.assertEqual(other.execute(question), console.execute(question))
        self.assertEqual(other.execute("where").split(" ")[:2], console.execute("where").split(" ")[:2])
        return other

    def test_m4(self):
        for seed, chart in enumerate(FACT_CHARTS):
            draw = Draw(seed + 70)
            text = "".join(map(str, chart))
            console = Console()
            console.execute(f"chart a {text}")
            for _ in range(60 if chart in LARGE_CHARTS else 12):
                command = drawn_command(draw, ["a", "b"], [text])
                try:
                    console.execute(command)
                except ValueError:
                    continue
                if command in ("forget a", "forget b"):
                    console.execute(f"chart a {text}")
            other = self.assert_like_its_journal(console)
            # In a run beside the chosen one, the live chart of the journal equals it.
            journal = console.execute("journal")
            word, name, rest = journal.split(" ", 2)
            begun = f"run use {name}; {word} other {rest}; same {name}"
            self.assertEqual(console.execute(begun).split("; ")[-1], "yes")
            self.assertEqual(other.execute("journal"), journal)

    def test_m4_of_whole_ones_and_twins(self):
        console = Console()
        console.execute(
            "run whole a 1200; turn; stepin 3; begin; go 9; twin b; use b; leave 0; come 4; send 5; leave 2"
        )
        self.assert_like_its_journal(console)
        self.assertEqual(console.execute("journal").split(" ")[:3], ["whole", "b", "1200;"])
        console.execute("use a")
        self.assertEqual(
            [console.execute("where"), self.assert_like_its_journal(console).execute("where")], ["5 3 1", "5 3 0"]
        )


if __name__ == "__main__":
    unittest.main()
