"""The document's examples, word for word."""

import unittest

import everynext.along
import everynext.chart_counts
import everynext.charts
import everynext.clues
import everynext.codes
import everynext.console
import everynext.errors
import everynext.fits
import everynext.joining
import everynext.keeping
import everynext.kept_lots
import everynext.likenesses
import everynext.live
import everynext.marked_trees
import everynext.paper_texts
import everynext.rings
import everynext.roots
from tests.helpers import run_examples

PART_1 = """
>>> ear, two = chart_told("1212"), chart_told("10")
>>> [ear, step(ear, 2), after(ear, 0, 10 ** 50), way(ear, 0), way((2, 0, 1), 0), leading(ear, 1), image(ear)]
[(1, 2, 1, 2), (2, 1, 2, 1), 2, (0, 1, 2), (0, 2, 1), (0, 2), (1, 2)]
>>> [rings(ear), depths(ear), height(ear), period(ear), entry(ear, 3), pieces(ear), children(ear, 2), tree_over(ear, 1)]
[[(1, 2)], (1, 0, 0, 1), 1, 2, 2, [(0, 1, 2, 3)], (3,), (0, 1)]
>>> [first_repeat(ear, 0), first_repeat(ear, 1), renamed(ear, (3, 1, 2, 0)), behind(two, two), with_next(two, 0, 0)]
[None, 3, (2, 2, 1, 1), (0, 1), (0, 0)]
>>> chart_told("13")
raises InvalidText(2)
>>> chart_told("1x")
raises InvalidText(1)
>>> chart_told("")
raises InvalidText(0)
"""
PART_2 = """
>>> star, stars = chart_told("0000"), chart_told("00")
>>> [chart_code(ear), tree_code(star, 0), piece_code(two, 1), chart_by_code(chart_code(ear)), least_alike(ear)]
[((((),), ((),)),), ((), (), ()), ((), ()), (1, 0, 0, 1), (1, 0, 0, 1)]
>>> [is_code((((),), ((),))), is_code(((),)), is_code(()), alike_row(ear, (1, 0, 0, 1)), nth_alike_row(ear, (1, 0, 0, 1), 1)]
[True, False, False, (2, 0, 1, 3), (3, 1, 0, 2)]
>>> [are_alike(stars, (1, 1)), are_alike(stars, (0, 1)), alike_count(ear), kind_count(3), kind_count(10), kinds(2)]
[True, False, 12, 7, 7318, [(((),), ((),)), (((), ()),), ((((),),),)]]
>>> [keep_count(ear), keep_shares(ear), nth_keeping(ear, 1), nth_keeping(ear, 2), keep_shares(star), keep_shares((0, 1))]
[2, (1, 2, 1), (3, 2, 1, 0), None, (1, 1, 6), (2, 1, 1)]
>>> [nth_keeping(star, 1), keeping_number(star, (0, 3, 2, 1)), like_lots(ear), own_lot(star), stay_count(star, (1,))]
[(0, 1, 3, 2), 5, [(0, 3), (1, 2)], (0,), 2]
>>> [row_leading(star, 1, 3), row_leading(star, 0, 1), moved(star, (0, 3, 1, 2), (1, 2)), lot_count(star, (1, 2))]
[(0, 3, 1, 2), None, (1, 3), 3]
>>> alike_row(stars, (0, 1))
raises NotAlike(((),))
>>> keeping_number(ear, (1, 0, 2, 3))
raises NotKeeping(0)
"""
PART_3_ROOTS = """
>>> twos, comb, four = chart_told("1032"), chart_told("1212"), chart_told("1230")
>>> [root_count(twos, 2), nth_root(twos, 2, 0), nth_root(twos, 2, 2), root_number(twos, 2, (3, 2, 0, 1)), is_root(twos, 2, (2, 3, 1, 0))]
[2, (2, 3, 1, 0), None, 1, True]
>>> [root_count(comb, 3), first_root(comb, 3), rooted(comb, 6), step_root(comb, 3), step_root(comb, 2)]
[3, (1, 2, 1, 0), [1, 3, 5], 1, None]
>>> [fitting(2, 2), fitting(2, 3), fitting(1, 6), barred_lengths(comb, 2), barred_lengths(twos, 2), ring_root_count(twos, 2)]
[[2], [1, 3], [1, 2, 3, 6], [2], [], 2]
>>> [step_root(four, 3), step_root(four, 1), root_count(four, 3)]
[3, 1, 1]
>>> first_root(comb, 2)
raises NoRoot(2)
>>> first_root(chart_told("0012"), 2)
raises NoRoot(0)
"""
PART_3_ALONG = """
>>> [along_count(comb), nth_along(comb, 0), nth_along(comb, 8), along_number(comb, (1, 2, 1, 2)), goals(comb, 0), goals(comb, 1)]
[8, (0, 1, 2, 1), None, 3, (0, 1, 2, 3), (1, 2)]
>>> [goes_along(comb, (0, 1, 2, 3)), goes_along(comb, (0, 0, 0, 0)), hitch(comb, (0, 0, 0, 0)), count_through(comb, ((0, 3),)), first_through(comb, ((0, 3), (3, 2)))]
[True, False, 0, 2, (3, 2, 1, 2)]
>>> [going_parts(comb), fewest_values(comb), fewest_values(twos), fewest_values(chart_told("1203")), step_number(comb, (0, 1, 2, 3)), step_number(comb, (2, 1, 2, 1)), step_count(comb)]
[((0, 3), (1, 2)), 2, 2, 1, 0, 2, 3]
>>> along_number(comb, (0, 0, 0, 0))
raises NotAlong(0)
"""
PART_4_LOTS = """
>>> ear = chart_told("1212")
>>> [kept_counts(ear), nth_kept(ear, 2), nth_kept(ear, 5), kept_number(ear, (1, 2, 3)), told_by(ear, (1, 2)), told_by(ear, (0, 1, 2, 3))]
[[1, 0, 1, 2, 1], (0, 1, 2), None, 3, (1,), (0, 3)]
>>> [kept_over(ear, (0,)), kept_within(ear, (0, 1)), kept_within(ear, (1, 2, 3)), coming_to(ear, (1,)), coming_to(ear, (0,))]
[(0, 1, 2), (), (1, 2, 3), (0, 1, 2, 3), (0,)]
>>> [kept_above(ear, (1, 2)), kept_below(ear, (1, 2)), kept_rows(ear, (), (0, 1, 2, 3)), kept_rows(ear, (0, 1, 2), (1, 2, 3))]
[[(0, 1, 2), (1, 2, 3)], [()], 2, 0]
>>> kept_number(ear, (0, 1))
raises NotKept(1)
"""
PART_4_LIKENESSES = """
>>> six = chart_told("123450")
>>> kept_parts(six)
[((0,), (1,), (2,), (3,), (4,), (5,)), ((0, 1, 2, 3, 4, 5),), ((0, 2, 4), (1, 3, 5)), ((0, 3), (1, 4), (2, 5))]
>>> [least_together(six, ((0, 2),)), joined_parts(six, ((0, 3), (1, 4), (2, 5)), ((0, 2, 4), (1, 3, 5)))]
[((0, 2, 4), (1, 3, 5)), ((0, 1, 2, 3, 4, 5),)]
>>> loose = ((0, 1), (2, 3))
>>> [are_kept(ear, loose), greatest_within(ear, loose), steps_apart(ear, loose, 0, 1), steps_apart(ear, ((0, 3), (1, 2)), 0, 3)]
[False, ((0,), (1,), (2,), (3,)), 1, None]
>>> [chart_of(ear, ((0, 3), (1, 2))), together_after(ear, 1), chart_of(ear, together_after(ear, 1)), drawn_together(ear, (1, 2))]
[(1, 1), ((0, 2), (1, 3)), (1, 0), ((0,), (1, 2), (3,))]
>>> [lifted_parts(ear, ((0, 2), (1, 3)), ((0, 1),)), parts_above(six, ((0, 3), (1, 4), (2, 5))), kept_parts_count(ear)]
[((0, 1, 2, 3),), [((0, 1, 2, 3, 4, 5),)], 9]
>>> chart_of(ear, loose)
raises NotKept(1)
"""
PART_5_TREES = """
>>> marked_tree(ear)
(((0, 1), (1, 2), (2, 3)), 2, 1)
>>> [chart_by_marks(((0, 1), (1, 2), (2, 3)), 2, 1), chart_by_marks(((0, 1), (1, 2), (2, 3)), 0, 3), tree_way(((0, 1), (0, 2)), 2, 1)]
[(1, 2, 1, 2), (0, 1, 2, 3), (2, 0, 1)]
>>> [leaf_row(((0, 1), (1, 2), (2, 3))), tree_by(4, (0, 0)), tree_number(((0, 1), (1, 2), (2, 3))), nth_tree(4, 16), tree_count(4)]
[(1, 2), ((0, 1), (0, 2), (0, 3)), 6, None, 16]
>>> [forest_of(ear), forest_row((1, 1, 2, 2)), forest_by(4, (1, 2), (1, 2)), forest_count(4, (1, 2)), is_forest(ear)]
[(1, 1, 2, 2), (1, 2), (1, 1, 2, 2), 8, False]
>>> forest_row(ear)
raises NotForest((1, 2))
"""
PART_5_COUNTS = """
>>> [ring_place_counts(3), reached_counts(3), piece_counts(3), height_counts(3), period_counts(3), depth_totals(3)]
[[0, 9, 12, 6], [0, 3, 18, 6], [0, 17, 9, 1], [6, 15, 6], [(1, 16), (2, 9), (3, 2)], [51, 24, 6]]
>>> [ring_length_count(4, (2,)), ring_length_count(3, (1, 1, 2)), returning_count(3, 0, 1), returning_count(3, 1, 1)]
[48, 0, 1, 10]
>>> [nth_by_ring_places(3, 1, 0), ring_places_rank((1, 2, 0)), nth_by_reached(3, 2, 0), nth_by_reached(3, 4, 0)]
[(0, 0, 0), 3, (0, 0, 1), None]
"""
PART_6_FITS = """
>>> hook, pair, turn = (1, 0, 0, 2), (1, 0, 0), (1, 2, 0)
>>> [all_fits(hook, pair), fit_count(hook, pair), nth_fit(hook, pair, 2), fit_number(hook, pair, (1, 0, 0, 1)), nth_fit(hook, pair, 3)]
[[(0, 1, 1, 0), (1, 0, 0, 1), (1, 0, 0, 2)], 3, (1, 0, 0, 2), 1, None]
>>> [first_wished(hook, pair, ((0, 1),)), wished_count(hook, pair, ((0, 1),)), fit_image(hook, pair, (0, 1, 1, 0)), fit_split(hook, pair, (1, 0, 0, 2)), onto_count(hook, pair)]
[(1, 0, 0, 1), 2, (0, 1), ((0,), (1, 2), (3,)), 1]
>>> [core(hook), can_lay(hook, (0, 1, 2)), go_both_ways(hook, pair), go_both_ways(hook, turn), is_fit(hook, pair, (0, 1, 1, 2))]
[(0, 1), True, True, False, False]
>>> first_fit(turn, pair)
raises NoFit((0, 1, 2))
"""
PART_6_CLUES = """
>>> told = ((0, 1, 1), (1, 2, 0))
>>> [meeting_count(3, told), nth_meeting(3, told, 0), sure_nexts(3, told), tells_all(3, told), meeting_count(3, ()), meeting_count(3, ((0, 2, 0),))]
[1, (1, 2, 0), (1, 2, 0), True, 27, 15]
>>> [sure_nexts(3, ((0, 1, 1), (0, 2, 2))), may_be(3, ((0, 2, 0),), 0, 1), sure_on_rings(3, ((0, 2, 0),)), may_be_on_rings(3, ((0, 1, 1), (0, 2, 1))), depth_bounds(3, ((0, 1, 1), (1, 1, 1)), 2)]
[(1, 2, None), (0, 1, 2), (0,), (1, 2), (0, 2)]
>>> [clash(2, ((0, 1, 1), (0, 3, 0), (1, 1, 1))), is_bar(2, ((0, 1, 1), (0, 3, 0))), is_bar(2, ((0, 0, 1),)), spare_clues(3, told + ((2, 1, 0),)), is_sure(3, told, (0, 10 ** 40, 1))]
[((0, 1, 1), (0, 3, 0)), True, True, [(2, 1, 0)], True]
>>> sure_nexts(2, ((0, 1, 1), (0, 3, 0)))
raises Clash(((0, 1, 1), (0, 3, 0)))
"""
PART_7 = """
>>> chart = chart_told("1200")
>>> [first_common(chart, 3, 1), together_steps(chart, 3, 1), together_steps(chart, 3, 2), steps_to(chart, 1, 0), comers(chart, 3)]
[(2, 0, 1), None, 1, 2, (3,)]
>>> [together_counts(chart), together_parts(chart), both_come(chart, 3, 1)]
[[0, 1], ((0,), (1,), (2, 3)), (0, 1, 2)]
>>> [chart_text(hung(chart, 3, chart_told("10"), 0)), chart_text(stepped_in(chart, 3)), chart_text(less_place(chart, 0))]
['120034', '12040', '100']
>>> [chart_text(exchanged(chart, 0, 2)), chart_text(turned(chart)), chart_text(less_place(chart_told("0000"), 0))]
['0210', '2010', '000']
"""
PART_8 = """
>>> live = Live(chart)
>>> [live.go(10 ** 20 + 1), live.walker, live.walk(4), live.rings(), live.depths(), live.sizes()]
[None, 2, (2, 0, 1, 2, 0), [(0, 1, 2)], (0, 0, 0, 1), [(1, 3, 1), (1, 3, 1)]]
>>> [live.step_in(3), live.send(4), live.leave(4), live.walker, live.would(("lead", 1, 1)), live.moments()]
[4, None, None, 0, (1, 1, 2, 0), [(0, 1, 4), (2, 3)]]
>>> [live.come(1), chart_text(live.chart), live.undo()]
[5, '12001', ('come', 1)]
>>> whole = WholeLive(chart)
>>> whole.come(4)
raises NotWhole(((0, 1, 2, 3), (4,)))
>>> [whole.turn(), whole.lead(1, 3), chart_text(whole.chart), whole.would(("turn",))]
[None, None, '2310', (1, 4, 0, 0)]
"""
PART_9_PAPERS = """
>>> [paper_text(("alike", (1, 0, 0), (1, 0, 1), (1, 0, 2))), paper_told("r;120;2;201"), paper_told("k;1200;0,1,23")]
['a;100;101;102', ('root', (1, 2, 0), 2, (2, 0, 1)), ('kept', (1, 2, 0, 0), ((0,), (1,), (2, 3)))]
>>> paper_told("f;120;10;010")
raises NotShown(2)
>>> paper_told("a;120;13")
raises InvalidText(7)
>>> paper_told("k;100;0,2")
raises InvalidText(8)
>>> paper_told("k;2302;01,23")
raises NotShown(3)
"""
PART_9_CONSOLE = """
>>> console = Console()
>>> console.execute("run chart a 1200; go 4; walker; stepin 3; rings; depths; sizes; paper")
'ok; ok; 1; 4; 0-1-2; 0 0 0 2 1; 1/3/1 1/3/1 1/3/2; k;12040;0,13,24'
>>> [console.execute("undo"), console.execute("exchange 0 2"), console.execute("moments"), console.execute("walk 3"), console.execute("journal")]
['stepin 3', 'ok', '0=1 2', '1 2 1 2', 'chart a 1200; go 4; exchange 0 2']
"""


MODULES = (
    everynext.errors, everynext.charts, everynext.rings, everynext.codes, everynext.keeping, everynext.roots,
    everynext.along, everynext.kept_lots, everynext.likenesses, everynext.marked_trees, everynext.chart_counts,
    everynext.fits, everynext.clues, everynext.joining, everynext.live, everynext.paper_texts, everynext.console,
)


class ExamplesTest(unittest.TestCase):
    def names(self):
        told = {}
        for module in MODULES:
            told.update(vars(module))
        # The examples of later parts go on with these of earlier ones.
        told.update(ear=(1, 2, 1, 2), two=(1, 0), twos=(1, 0, 3, 2), comb=(1, 2, 1, 2), chart=(1, 2, 0, 0))
        return told

    def test_part_1(self):
        run_examples(self, PART_1, self.names())

    def test_part_2(self):
        run_examples(self, PART_2, self.names())

    def test_part_3_roots(self):
        run_examples(self, PART_3_ROOTS, self.names())

    def test_part_3_along(self):
        run_examples(self, PART_3_ALONG, self.names())

    def test_part_4_lots(self):
        run_examples(self, PART_4_LOTS, self.names())

    def test_part_4_likenesses(self):
        run_examples(self, PART_4_LIKENESSES, self.names())

    def test_part_5_trees(self):
        run_examples(self, PART_5_TREES, self.names())

    def test_part_5_counts(self):
        run_examples(self, PART_5_COUNTS, self.names())

    def test_part_6_fits(self):
        run_examples(self, PART_6_FITS, self.names())

    def test_part_6_clues(self):
        run_examples(self, PART_6_CLUES, self.names())

    def test_part_7(self):
        run_examples(self, PART_7, self.names())

    def test_part_8(self):
        run_examples(self, PART_8, self.names())

    def test_part_9_papers(self):
        run_examples(self, PART_9_PAPERS, self.names())

    def test_part_9_console(self):
        run_examples(self, PART_9_CONSOLE, self.names())


if __name__ == "__main__":
    unittest.main()
