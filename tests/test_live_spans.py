"""Points [38] and [39]: undo, spans, twins, equality, whole live charts and replay."""

import unittest

from everynext.errors import (
    InvalidChart, InvalidDeeds, InvalidPlace, NoSpan, NothingToUndo, NotWhole, Refused, TooMany,
)
from everynext.live import Live, WholeLive, replay
from tests.helpers import (
    CHARTS, CHARTS_OF_FOUR, EACH_ITS_OWN, EAR, LARGE_CHARTS, NINETY_DIGITS, NOT_CHARTS, ONE, ONE_RING, STAR, deep,
    raised_by, told_in_time,
)
from tests.plain_lives import Draw, PlainLive, drawn_deed, plain_error, plainly_deed
from tests.test_live import CHART, NO_DEEDS, state

# A deed of each kind, one behind another, of a live chart of CHART.
ALL_DEEDS = [
    ("step_in", 3), ("come", 1), ("come", 6), ("go", 10 ** 89), ("send", 4), ("lead", 6, 0), ("exchange", 6, 5),
    ("turn",),
    ("leave", 2), ("send", 6), ("leave", 6),
]


def with_deeds(live, deeds):
    for name, *values in deeds:
        getattr(live, name)(*values)
    return live


class SpansTest(unittest.TestCase):
    def test_undo(self):
        live = Live(CHART)
        states = [state(live)]
        for deed in ALL_DEEDS:
            with_deeds(live, [deed])
            states.append(state(live))
        for deed in ALL_DEEDS[::-1]:
            self.assertEqual(state(live), states.pop())
            self.assertEqual(live.undo(), deed)
        self.assertEqual(state(live), states.pop())
        self.assertEqual(raised_by(self, live.undo), (NothingToUndo, {}))
        self.assertEqual(state(live), state(Live(CHART)))

    def test_undo_gives_the_next_mark_back(self):
        live = Live(CHART)
        self.assertEqual([live.come(0), live.undo(), live.next_mark, live.step_in(1)], [4, ("come", 0), 4, 4])
        self.assertEqual(
            [live.undo(), live.next_mark, live.come(4), live.marks], [("step_in", 1), 4, 4, (0, 1, 2, 3, 4)]
        )

    def test_undo_gives_the_walker_back(self):
        live = Live(CHART)
        live.send(3)
        live.leave(3)
        self.assertEqual([live.walker, live.undo(), live.walker], [0, ("leave", 3), 3])
        live.go(5)
        self.assertEqual(
            [live.walker, live.undo(), live.walker, live.undo(), live.walker], [1, ("go", 5), 3, ("send", 3), 0]
        )

    def test_spans(self):
        live = Live(CHART)
        self.assertEqual([live.begin(), live.depth, live.go(1), live.begin(), live.depth], [None, 1, None, None, 2])
        self.assertEqual(raised_by(self, live.undo), (NothingToUndo, {}))
        self.assertEqual([live.come(0), live.lead(4, 4), live.drop(), live.depth], [4, None, None, 1])
        self.assertEqual([live.deeds, live.chart, live.next_mark], [[("go", 1)], CHART, 4])
        self.assertEqual([live.begin(), live.go(1), live.keep(), live.depth, live.walker], [None, None, None, 1, 2])
        self.assertEqual([live.undo(), live.undo()], [("go", 1)] * 2)
        self.assertEqual(raised_by(self, live.undo), (NothingToUndo, {}))
        self.assertEqual([live.keep(), live.depth], [None, 0])
        self.assertEqual(raised_by(self, live.undo), (NothingToUndo, {}))
        for end in (live.keep, live.drop):
            self.assertEqual(raised_by(self, end), (NoSpan, {}))

    def test_a_span_guards_the_deeds_ahead_of_it(self):
        live = Live(CHART)
        live.go(1)
        live.begin()
        self.assertEqual(raised_by(self, live.undo), (NothingToUndo, {}))
        live.go(1)
        self.assertEqual(live.undo(), ("go", 1))
        self.assertEqual(raised_by(self, live.undo), (NothingToUndo, {}))
        live.keep()
        self.assertEqual([live.undo(), live.deeds], [("go", 1), []])

    def test_twelve_spans(self):
        for keeps in (0b000000000000, 0b111111111111, 0b101010101010, 0b000000111111, 0b111111000000, 0b110001110100):
            live = Live((0,))
            kept = [[]]
            for number in range(12):
                live.begin()
                kept.append([("come", 0)] if number % 2 == 0 and len(live.marks) < 10 else [("go", number)])
                with_deeds(live, kept[-1])
            self.assertEqual((live.depth, len(live.deeds)), (12, 12))
            for number in range(12):
                ended = kept.pop()
                if keeps >> number & 1:
                    told_in_time(self, live.keep)
                    kept[-1] = kept[-1] + ended
                else:
                    told_in_time(self, live.drop)
                deeds = [deed for span in kept for deed in span]
                self.assertEqual((live.depth, live.deeds), (11 - number, deeds), bin(keeps))
                self.assertEqual(state(live)[:6], state(replay((0,), deeds))[:6])
            self.assertEqual(raised_by(self, live.drop), (NoSpan, {}))

    def test_drawn_spans(self):
        for seed, chart in enumerate(LARGE_CHARTS):
            draw = Draw(seed + 500)
            live, deeds, spans = Live(chart), [], []
            for _ in range(60):
                plain = PlainLive(chart)
                for deed in deeds:
                    plainly_deed(plain, *deed)
                chance = draw.below(8)
                if chance == 0 and len(spans) < 12:
                    live.begin()
                    spans.append(len(deeds))
                elif chance == 1 and spans:
                    live.keep()
                    spans.pop()
                elif chance == 2 and spans:
                    live.drop()
                    deeds = deeds[:spans.pop()]
                elif chance == 3 and len(deeds) > (spans[-1] if spans else 0):
                    self.assertEqual(live.undo(), deeds.pop())
                else:
                    deed = drawn_deed(draw, plain)
                    if plain_error(plain, False, deed) is None:
                        with_deeds(live, [deed])
                        deeds = deeds + [deed]
                self.assertEqual((live.deeds, live.depth), (deeds, len(spans)))
            self.assertEqual(live, with_deeds(Live(chart), deeds))

    def test_a_refused_deed_leaves_spans(self):
        live = Live(STAR)
        live.begin()
        self.assertEqual(raised_by(self, live.come, 0), (TooMany, {"count": 10}))
        self.assertEqual(raised_by(self, live.lead, 7, 7), (Refused, {}))
        self.assertEqual([live.depth, live.deeds, live.drop()], [1, [], None])


class TwinsTest(unittest.TestCase):
    def test_twins_are_equal_and_independent(self):
        live = with_deeds(Live(CHART), ALL_DEEDS)
        live.begin()
        twin = live.twin()
        self.assertIs(type(twin), Live)
        self.assertEqual((twin, twin.depth, live.depth), (live, 0, 1))
        self.assertEqual(state(twin)[:6], state(live)[:6])
        self.assertEqual(state(twin)[7:], state(live)[7:])
        before = state(live)
        self.assertEqual(twin.undo(), ("leave", 6))
        twin.go(3)
        twin.begin()
        self.assertEqual(state(live), before)
        self.assertNotEqual(twin, live)
        other = live.twin()
        live.go(1)
        live.drop()
        self.assertEqual(state(other)[:6], before[:6])
        self.assertEqual(raised_by(self, other.keep), (NoSpan, {}))

    def test_a_twin_undoes_what_stands_ahead_of_a_span(self):
        live = Live(CHART)
        live.go(1)
        live.begin()
        self.assertEqual(raised_by(self, live.undo), (NothingToUndo, {}))
        self.assertEqual(live.twin().undo(), ("go", 1))

    def test_twins_of_whole_ones(self):
        whole = with_deeds(WholeLive(CHART), [("turn",), ("go", 2)])
        twin = whole.twin()
        self.assertIs(type(twin), WholeLive)
        self.assertEqual((twin, state(twin)), (whole, state(whole)))
        self.assertEqual(raised_by(self, twin.come, 4), (NotWhole, {"pieces": ((0, 1, 2, 3), (4,))}))

    def test_equality(self):
        self.assertTrue(Live(CHART) == Live(CHART))
        self.assertFalse(Live(CHART) != Live(CHART))
        self.assertFalse(Live(CHART) == Live(EAR))
        self.assertTrue(Live(CHART) != Live(EAR))
        one, other = Live(CHART), Live(CHART)
        one.go(3)
        self.assertFalse(one == other)
        other.go(3)
        self.assertTrue(one == other)
        other.begin()
        self.assertTrue(one == other)
        # The same chart and walker, but by other deeds.
        one.go(0)
        other.send(0)
        self.assertFalse(one == other)
        self.assertEqual((one.chart, one.walker), (other.chart, other.walker))
        self.assertFalse(with_deeds(Live(CHART), [("exchange", 0, 1)]) == with_deeds(Live(CHART), [("exchange", 1, 0)]))

    def test_equal_charts_of_unlike_starts(self):
        one, other = Live((0, 0)), Live((0, 1))
        other.lead(1, 0)
        self.assertEqual(one.chart, other.chart)
        self.assertFalse(one == other)

    def test_live_charts_of_unlike_classes(self):
        self.assertFalse(Live(CHART) == WholeLive(CHART))
        self.assertFalse(WholeLive(CHART) == Live(CHART))
        self.assertTrue(Live(CHART) != WholeLive(CHART))
        self.assertTrue(WholeLive(CHART) == WholeLive(CHART))

    def test_other_values(self):
        for live in (Live(CHART), WholeLive(CHART)):
            for value in NOT_CHARTS + [CHART, "live", Live, object(), (CHART, []), [live], (live,)]:
                self.assertIs(live == value, False)
                self.assertIs(live != value, True)


class WholeLivesTest(unittest.TestCase):
    def test_at_the_start(self):
        for chart in CHARTS + CHARTS_OF_FOUR:
            pieces = PlainLive(chart).pieces()
            if len(pieces) > 1:
                self.assertEqual(raised_by(self, WholeLive, chart), (NotWhole, {"pieces": pieces}), chart)
            else:
                self.assertEqual(state(WholeLive(chart)), state(Live(chart)), chart)
        self.assertTrue(issubclass(WholeLive, Live))
        self.assertEqual(raised_by(self, WholeLive, EACH_ITS_OWN)[1], {"pieces": tuple((k,) for k in range(10))})
        self.assertEqual(WholeLive(chart=CHART).chart, CHART)

    def assert_refused(self, live, error, deed):
        before = state(live)
        self.assertEqual(raised_by(self, getattr(live, deed[0]), *deed[1:]), error, deed)
        self.assertEqual(raised_by(self, live.would, deed), error, deed)
        self.assertEqual(state(live), before, deed)

    def test_each_deed_that_would_part_it(self):
        self.assert_refused(WholeLive(CHART), (NotWhole, {"pieces": ((0, 1, 2, 3), (4,))}), ("come", 4))
        self.assert_refused(WholeLive(CHART), (NotWhole, {"pieces": ((0, 1, 2), (3,))}), ("lead", 3, 3))
        self.assert_refused(WholeLive((1, 0, 3, 0)), (NotWhole, {"pieces": ((0, 1), (2, 3))}), ("lead", 3, 2))
        self.assert_refused(WholeLive(CHART), (NotWhole, {"pieces": ((0, 2, 3), (1,))}), ("exchange", 0, 1))
        self.assert_refused(
            WholeLive(ONE_RING), (NotWhole, {"pieces": ((0, 6, 7, 8, 9), (1, 2, 3, 4, 5))}), ("exchange", 0, 5)
        )
        self.assert_refused(WholeLive((0, 0, 1)), (NotWhole, {"pieces": ((0,), (1, 2))}), ("lead", 1, 2))
        self.assert_refused(WholeLive((0, 0)), (NotWhole, {"pieces": ((0,), (1,))}), ("lead", 1, 1))

    def test_pieces_are_told_by_marks(self):
        live = with_deeds(WholeLive(CHART), [("come", 3), ("leave", 0), ("come", 4), ("leave", 3)])
        self.assertEqual((live.marks, live.chart), ((1, 2, 4, 5), (1, 0, 0, 2)))
        self.assert_refused(live, (NotWhole, {"pieces": ((1, 2), (4, 5))}), ("lead", 4, 4))
        self.assert_refused(live, (NotWhole, {"pieces": ((1, 2, 4), (5,))}), ("lead", 5, 5))
        self.assert_refused(live, (NotWhole, {"pieces": ((1, 2, 4, 5), (6,))}), ("come", 6))

    def test_other_errors_go_ahead(self):
        for deed, error in (
            (("come", 10), (TooMany, {"count": 10})), (("come", 11), (InvalidPlace, {})),
            (("lead", 7, 7), (Refused, {})),
            (("lead", 10, 10), (InvalidPlace, {})), (("exchange", 0, 0), (InvalidPlace, {})),
            (("turn",), (Refused, {})),
            (("exchange", 0, 1), (Refused, {})),
        ):
            self.assert_refused(WholeLive(STAR), error, deed)
        self.assert_refused(WholeLive(ONE), (Refused, {}), ("leave", 0))
        self.assert_refused(WholeLive(ONE), (NotWhole, {"pieces": ((0,), (1,))}), ("come", 1))

    def test_what_is_let(self):
        live = with_deeds(
            WholeLive(CHART), ALL_DEEDS[:2] + [("turn",), ("leave", 0), ("send", 5), ("leave", 2), ("lead", 1, 3)]
        )
        self.assertEqual((len(live.rings()), live.marks), (1, (1, 3, 4, 5)))
        live.begin()
        live.leave(1)
        live.drop()
        self.assertEqual(live.undo(), ("lead", 1, 3))

    def test_sixty_deeds_in_time(self):
        live = WholeLive(ONE_RING)
        for number in range(30):
            told_in_time(self, live.leave, live.marks[0])
            told_in_time(self, live.step_in, live.marks[number % 9])
        self.assertEqual(len(live.deeds), 60)
        self.assertEqual(set(told_in_time(self, live.sizes)), {(1, 10, 0), (1, 9, 0)})
        self.assertEqual([len(numbers) for numbers in told_in_time(self, live.moments)], [31, 30])
        self.assertEqual(told_in_time(self, lambda: replay(ONE_RING, live.deeds, whole=True)), live)


class ReplayTest(unittest.TestCase):
    def test_all_deeds(self):
        live = with_deeds(Live(CHART), ALL_DEEDS)
        for told in (
            replay(CHART, ALL_DEEDS), replay(chart=CHART, deeds=ALL_DEEDS), replay(CHART, ALL_DEEDS, whole=False)
        ):
            self.assertIs(type(told), Live)
            self.assertEqual((told, state(told)), (live, state(live)))
        self.assertEqual(replay(CHART, []), Live(CHART))

    def test_whole_ones(self):
        deeds = [("come", 3), ("turn",), ("lead", 3, 4)]
        self.assertEqual(raised_by(self, lambda: replay(CHART, deeds, whole=True)), (InvalidDeeds, {"index": 2}))
        told = replay(CHART, deeds[:2], whole=True)
        self.assertIs(type(told), WholeLive)
        self.assertEqual(told, with_deeds(WholeLive(CHART), deeds[:2]))
        self.assertEqual(replay(CHART, deeds).chart, (2, 0, 1, 4, 3))
        self.assertEqual(replay(ONE, [], whole=True), WholeLive(ONE))

    def test_the_errors_of_the_class_go_ahead(self):
        for wrong in NOT_CHARTS:
            for deeds in (None, [], [None]):
                self.assertEqual(raised_by(self, replay, wrong, deeds), (InvalidChart, {}))
                self.assertEqual(raised_by(self, lambda: replay(wrong, deeds, whole=True)), (InvalidChart, {}))
        for deeds in (None, [], [None]):
            error = raised_by(self, lambda: replay((0, 1), deeds, whole=True))
            self.assertEqual(error, (NotWhole, {"pieces": ((0,), (1,))}))

    def test_no_lists(self):
        for wrong in (
            None, True, False, 0, "", "turn", (), (("turn",),), ("turn",), NINETY_DIGITS, deep(("turn",), 38)
        ):
            self.assertEqual(raised_by(self, replay, CHART, wrong), (InvalidDeeds, {"index": 0}), wrong)
            self.assertEqual(
                raised_by(self, lambda: replay(CHART, wrong, whole=True)), (InvalidDeeds, {"index": 0}), wrong
            )

    def test_entries_of_wrong_form(self):
        for wrong in NO_DEEDS:
            for ahead in range(3):
                deeds = [("turn",), ("go", 5), ("come", 4)][:ahead] + [wrong] + [None]
                self.assertEqual(raised_by(self, replay, CHART, deeds), (InvalidDeeds, {"index": ahead}), wrong)

    def test_entries_that_fail_in_their_turn(self):
        for deeds, index in (
            ([("leave", 4)], 0), ([("come", 4), ("leave", 4), ("leave", 4)], 2), ([("come", 5)], 0),
            ([("come", 0)] * 7, 6),
            ([("lead", 0, 2), ("lead", 0, 2)], 1), ([("lead", 0, 0), ("turn",)], 1), ([("go", -1)], 0),
            ([("go", True)], 0),
            ([("send", 3), ("leave", 3), ("send", 3)], 2),
            ([("leave", 0), ("leave", 1), ("leave", 2), ("leave", 3)], 3),
            ([("exchange", 2, 3)], 0), ([("step_in", 4)], 0), ([("step_in", [4])], 0), ([("send", "0")], 0),
            ([("come", 0)] * 6 + [("step_in", 0)], 6), ([("go", 0)] * 60 + [("exchange", 1, 1)], 60),
        ):
            self.assertEqual(raised_by(self, replay, CHART, deeds), (InvalidDeeds, {"index": index}), deeds)
            # What stands behind the first wrong entry is not looked at.
            self.assertEqual(
                raised_by(self, replay, CHART, deeds + [None, ("turn",)]), (InvalidDeeds, {"index": index})
            )
            right = replay(CHART, deeds[:index])
            self.assertEqual(right.deeds, deeds[:index])

    def test_the_deeds_stay_the_caller_s(self):
        deeds = list(ALL_DEEDS)
        told = replay(CHART, deeds)
        self.assertEqual(deeds, ALL_DEEDS)
        deeds.clear()
        self.assertEqual(told.deeds, ALL_DEEDS)
        told.undo()
        again = told.deeds
        other = replay(CHART, again)
        other.undo()
        self.assertEqual(again, ALL_DEEDS[:-1])

    def test_sixty_deeds_in_time(self):
        deeds = [("leave", 0)] + [deed for k in range(10, 39) for deed in (("step_in", k - 9), ("leave", k - 9))] + [
            ("turn",)
        ]
        self.assertEqual(len(deeds), 60)
        told = told_in_time(self, replay, ONE_RING, deeds)
        self.assertEqual((told.chart, told.start, told.next_mark), ((8, 0, 1, 2, 3, 4, 5, 6, 7), ONE_RING, 39))


if __name__ == "__main__":
    unittest.main()
