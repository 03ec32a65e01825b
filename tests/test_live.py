"""Points [36] to [38]: the deeds and fields of live charts."""

import unittest

from everynext.errors import InvalidChart, InvalidCount, InvalidDeeds, InvalidPlace, Refused, TooMany
from everynext.live import Live, WholeLive
from tests.helpers import (
    CHARTS, CHARTS_OF_TEN, EACH_ITS_OWN, EAR, LARGE_CHARTS, LONG_WAY, NINETY_DIGITS, NOT_CHARTS, NOT_NUMBERS,
    NOT_PLACES, ONE, ONE_RING, STAR, deep, raised_by, told_in_time,
)
from tests.plain_lives import Draw, PlainLive, drawn_deed, plain_error, plainly_deed

CHART = (1, 2, 0, 0)
DEEDS_OF_MARKS = ("leave", "step_in", "send")
NO_DEEDS = [
    True, False, None, 0, -1, NINETY_DIGITS, "", "turn", "come", (), [], [("turn",)], ["turn"], ["come", 0],
    (("turn",),),
    ("turn", 0), ("turn", None), ("turn", ()), ("come",), ("come", 0, 1), ("lead",), ("lead", 0), ("lead", 0, 1, 2),
    ("exchange", 0), ("leave",), ("leave", 0, 0), ("step_in",), ("stepin", 0), ("step_in", 0, 0), ("go",), ("go", 1, 1),
    ("send",), ("send", 0, 0), ("undo",), ("begin",), ("keep",), ("drop",), ("walk", 1), ("would", ("turn",)),
    ("twin",), ("rings",), ("sizes",), ("chart",), ("Turn",), ("turn ",), ("",), (None,), (True,), (0,), (0, 1),
    (("turn",),),
    (["turn"],), ("come", 0, None), ("__init__", CHART), ("_act", "turn"), (b"turn",), deep(("turn",), 38), deep(()),
    ("turn",) * 3000, (0,) * 3000, deep("turn"), [[("come", 0)]],
]


def state(live):
    """All that is told of a live chart."""
    return (
        live.chart, live.start, live.marks, live.next_mark, live.walker, live.deeds, live.depth, live.walk(9),
        live.rings(), live.depths(), live.sizes(), live.moments(),
    )


def plain_moments(behind):
    kinds = [plain.kind() for plain in behind]
    return sorted({tuple(k for k, kind in enumerate(kinds) if kind == found) for found in kinds})


class LiveTest(unittest.TestCase):
    def assert_like(self, live, behind, deeds):
        """That the live chart is as the last one of the plain ones behind 0, 1, .. deeds."""
        plain = behind[-1]
        self.assertEqual((live.chart, live.marks), (plain.chart(), plain.marks()))
        self.assertEqual((live.next_mark, live.walker, live.deeds), (plain.next_mark, plain.walker, deeds))
        self.assertEqual((live.rings(), live.depths()), (plain.rings(), plain.depths()))
        self.assertEqual(live.walk(12), tuple(plain.after(plain.walker, k) for k in range(13)))
        self.assertEqual(live.sizes(), [told.size() for told in behind])

    def play(self, live, seed, rounds):
        """Drawn deeds, each one held against the plain live chart, be it done or refused; undone at times."""
        draw = Draw(seed)
        behind, deeds = [PlainLive(live.start)], []
        whole = isinstance(live, WholeLive)
        for _ in range(rounds):
            deed = drawn_deed(draw, behind[-1])
            error = plain_error(behind[-1], whole, deed)
            before = state(live)
            if error:
                self.assertEqual(raised_by(self, live.would, deed), error, (live.start, deeds, deed))
                self.assertEqual(raised_by(self, getattr(live, deed[0]), *deed[1:]), error, (live.start, deeds, deed))
                self.assertEqual(state(live), before)
                continue
            plain = behind[-1].copy()
            wanted = plainly_deed(plain, *deed)
            self.assertEqual(live.would(deed), (*plain.size(), plain.walker), (live.start, deeds, deed))
            self.assertEqual(state(live), before)
            self.assertEqual(getattr(live, deed[0])(*deed[1:]), wanted, (live.start, deeds, deed))
            behind.append(plain)
            deeds.append(deed)
            self.assert_like(live, behind, deeds)
            if draw.below(5) == 0:
                self.assertEqual(live.undo(), deeds.pop())
                behind.pop()
                self.assertEqual(state(live), before)
        self.assertEqual(live.moments(), plain_moments(behind))

    def test_drawn_deeds(self):
        for seed, chart in enumerate(CHARTS):
            self.play(Live(chart), seed, 25)

    def test_drawn_deeds_of_whole_ones(self):
        for seed, chart in enumerate(CHARTS):
            if len(PlainLive(chart).pieces()) == 1:
                self.play(WholeLive(chart), seed + 1000, 30)

    def test_many_drawn_deeds(self):
        for seed, chart in enumerate(LARGE_CHARTS + [ONE]):
            self.play(Live(chart), seed + 2000, 75)

    def test_at_the_start(self):
        for chart in CHARTS:
            live = Live(chart)
            self.assertEqual((live.chart, live.start, live.deeds, live.depth), (chart, chart, [], 0))
            marks = tuple(range(len(chart)))
            self.assertEqual((live.marks, live.next_mark, live.walker), (marks, len(chart), 0))
            self.assertEqual(live.moments(), [(0,)])
            self.assert_like(live, [PlainLive(chart)], [])

    def test_no_charts(self):
        for cls in (Live, WholeLive):
            for wrong in NOT_CHARTS:
                self.assertEqual(raised_by(self, cls, wrong), (InvalidChart, {}), wrong)

    def test_arguments_by_name(self):
        live = Live(chart=CHART)
        self.assertEqual([live.come(mark=1), live.step_in(mark=2), live.leave(mark=3)], [4, 5, None])
        self.assertEqual([live.lead(mark=4, other_mark=0), live.exchange(mark=0, other_mark=1)], [None, None])
        self.assertEqual([live.go(number=3), live.send(mark=5), live.turn()], [None, None, None])
        self.assertEqual([live.walk(number=1), live.would(deed=("go", 0))], [(5, 2), (2, 3, 1, 5)])
        self.assertEqual(live.deeds[3:5], [("lead", 4, 0), ("exchange", 0, 1)])
        self.assertEqual((live.marks, live.chart), ((0, 1, 2, 4, 5), (4, 1, 0, 0, 2)))


class DeedsTest(unittest.TestCase):
    def assert_refused(self, live, error, name, *values):
        """That the deed and would raise the error, and that nothing is changed."""
        before = state(live)
        self.assertEqual(raised_by(self, getattr(live, name), *values), error, (name, values))
        self.assertEqual(raised_by(self, live.would, (name, *values)), error, (name, values))
        self.assertEqual(state(live), before, (name, values))

    def test_wrong_marks(self):
        live = Live(CHART)
        live.come(0)
        live.leave(2)
        # Marks 0, 1, 3 and 4 are there; 2 has gone; the next one is 5.
        beyond = [2, 5, 6, 10, NINETY_DIGITS, -1, -5] + [wrong for wrong in NOT_PLACES if wrong != 4]
        for wrong in beyond:
            for name in DEEDS_OF_MARKS:
                self.assert_refused(live, (InvalidPlace, {}), name, wrong)
            for name in ("lead", "exchange"):
                self.assert_refused(live, (InvalidPlace, {}), name, wrong, 0)
                self.assert_refused(live, (InvalidPlace, {}), name, 0, wrong)
                self.assert_refused(live, (InvalidPlace, {}), name, wrong, wrong)
            if wrong != 5:
                self.assert_refused(live, (InvalidPlace, {}), "come", wrong)
        for wrong in NOT_NUMBERS:
            self.assert_refused(live, (InvalidCount, {}), "go", wrong)

    def test_come(self):
        live = Live(ONE)
        self.assertEqual([live.come(0), live.chart, live.come(2), live.chart], [1, (0, 0), 2, (0, 0, 2)])
        self.assertEqual([live.come(1), live.chart, live.marks, live.next_mark], [3, (0, 0, 2, 1), (0, 1, 2, 3), 4])
        self.assertEqual(live.walker, 0)
        live.leave(3)
        self.assert_refused(live, (InvalidPlace, {}), "come", 3)
        self.assertEqual([live.come(4), live.chart, live.marks], [4, (0, 0, 2, 3), (0, 1, 2, 4)])

    def test_true_is_no_mark(self):
        # The next mark is 1, or 1 is there, but True is not 1.
        for chart in (ONE, (1, 0), STAR):
            for wrong in (True, False):
                for name in ("come", *DEEDS_OF_MARKS):
                    self.assert_refused(Live(chart), (InvalidPlace, {}), name, wrong)

    def test_ten_places(self):
        live = Live((0,) * 9)
        self.assertEqual([live.step_in(8), live.chart], [9, (0,) * 8 + (9, 0)])
        for mark in (0, 9, 10):
            self.assert_refused(live, (TooMany, {"count": 10}), "come", mark)
        self.assert_refused(live, (TooMany, {"count": 10}), "step_in", 9)
        self.assert_refused(live, (InvalidPlace, {}), "come", 11)
        self.assert_refused(live, (InvalidPlace, {}), "step_in", 10)
        live.leave(3)
        self.assertEqual([live.come(10), live.marks], [10, (0, 1, 2, 4, 5, 6, 7, 8, 9, 10)])
        for chart in CHARTS_OF_TEN:
            self.assert_refused(Live(chart), (TooMany, {"count": 10}), "come", 10)
            self.assert_refused(Live(chart), (TooMany, {"count": 10}), "step_in", 0)

    def test_leave(self):
        self.assert_refused(Live(ONE), (Refused, {}), "leave", 0)
        self.assert_refused(Live(ONE), (InvalidPlace, {}), "leave", 1)
        # The place was its own next one, and none, one and several other ones led to it.
        for chart, mark, wanted in (
            ((0, 1), 0, (0,)), ((0, 0), 0, (0,)), ((2, 2, 2), 2, (0, 0)), ((1, 1, 0), 1, (0, 0)), (STAR, 7, (0,) * 9),
            (EACH_ITS_OWN, 5, tuple(range(9))), (ONE_RING, 0, (1, 2, 3, 4, 5, 6, 7, 8, 0)), (LONG_WAY, 3, LONG_WAY[:9]),
        ):
            live = Live(chart)
            self.assertIsNone(live.leave(mark))
            self.assertEqual((live.chart, live.next_mark), (wanted, len(chart)))
            self.assertEqual(live.marks, tuple(x for x in range(len(chart)) if x != mark))

    def test_the_walker_on_the_place_that_goes(self):
        for chart, mark, wanted in (
            (CHART, 3, 0), (CHART, 0, 1), (CHART, 2, 0), ((0, 1), 0, 1), ((0, 1), 1, 0), ((0, 0, 2), 0, 1),
            ((2, 2, 2), 2, 0),
            (STAR, 7, 0), (STAR, 0, 7), ((0, 1, 2), 2, 0), ((1, 0), 0, 1), (LONG_WAY, 0, 1),
        ):
            live = Live(chart)
            live.send(mark)
            live.leave(mark)
            self.assertEqual(live.walker, wanted, (chart, mark))
        live = Live(CHART)
        live.leave(3)
        self.assertEqual(live.walker, 0)

    def test_lead(self):
        live = Live(CHART)
        self.assert_refused(live, (Refused, {}), "lead", 0, 1)
        self.assert_refused(live, (Refused, {}), "lead", 3, 0)
        self.assertEqual(
            [live.lead(0, 0), live.chart, live.lead(3, 2), live.chart], [None, (0, 2, 0, 0), None, (0, 2, 0, 2)]
        )
        self.assert_refused(live, (Refused, {}), "lead", 0, 0)
        self.assert_refused(Live(ONE), (Refused, {}), "lead", 0, 0)

    def test_exchange(self):
        live = Live(CHART)
        self.assert_refused(live, (Refused, {}), "exchange", 2, 3)
        self.assert_refused(live, (InvalidPlace, {}), "exchange", 2, 2)
        self.assert_refused(live, (InvalidPlace, {}), "exchange", 4, 4)
        self.assertEqual([live.exchange(2, 0), live.chart, live.deeds], [None, (0, 2, 1, 0), [("exchange", 2, 0)]])
        self.assert_refused(Live(STAR), (Refused, {}), "exchange", 0, 1)
        self.assert_refused(Live(ONE), (InvalidPlace, {}), "exchange", 0, 0)

    def test_step_in(self):
        live = Live((0, 0))
        self.assertEqual([live.step_in(0), live.step_in(2), live.chart, live.walker], [2, 3, (2, 0, 3, 0), 0])
        live.leave(2)
        self.assertEqual([live.step_in(3), live.chart, live.marks], [4, (2, 0, 3, 0), (0, 1, 3, 4)])

    def test_turn(self):
        for chart in (ONE, (1, 0), EACH_ITS_OWN, STAR, EAR, (1, 0, 3, 2)):
            self.assert_refused(Live(chart), (Refused, {}), "turn")
        live = Live(ONE_RING)
        self.assertEqual([live.turn(), live.chart], [None, (9, 0, 1, 2, 3, 4, 5, 6, 7, 8)])
        self.assertEqual([live.turn(), live.chart, live.deeds], [None, ONE_RING, [("turn",)] * 2])

    def test_go_and_send(self):
        live = Live(ONE_RING)
        self.assertEqual([live.go(0), live.walker, live.go(10 ** 89 + 3), live.walker], [None, 0, None, 3])
        self.assertEqual([live.go(NINETY_DIGITS), live.walker], [None, (3 + NINETY_DIGITS) % 10])
        self.assertEqual([live.send(4), live.send(4), live.walker, len(live.deeds)], [None, None, 4, 5])
        self.assertEqual(live.deeds[2], ("go", NINETY_DIGITS))
        self.assertEqual(live.sizes(), [(1, 10, 0)] * 6)

    def test_no_other_deed_moves_the_walker(self):
        live = Live(ONE_RING)
        live.leave(9)
        live.send(5)
        for name, values in (
            ("lead", (5, 1)), ("exchange", (5, 1)), ("turn", ()), ("step_in", (5,)), ("leave", (0,)), ("come", (5,)),
        ):
            getattr(live, name)(*values)
            self.assertEqual(live.walker, 5, name)


class QuestionsTest(unittest.TestCase):
    def test_walk(self):
        live = Live(CHART)
        live.send(3)
        self.assertEqual([live.walk(0), live.walk(1), live.walk(5)], [(3,), (3, 0), (3, 0, 1, 2, 0, 1)])
        self.assertEqual(live.walk(1000), (3,) + (0, 1, 2) * 333 + (0,))
        for wrong in NOT_NUMBERS + [1001, 1002, NINETY_DIGITS]:
            self.assertEqual(raised_by(self, live.walk, wrong), (InvalidCount, {}), wrong)
        live.leave(0)
        self.assertEqual([live.walk(4), live.walker], [(3, 1, 2, 1, 2), 3])

    def test_rings_and_depths_by_marks(self):
        live = Live(EACH_ITS_OWN)
        live.leave(0)
        live.come(3)
        self.assertEqual([live.rings(), live.depths()], [[(k,) for k in range(1, 10)], (0,) * 9 + (1,)])
        live.lead(9, 10)
        live.lead(3, 9)
        rings = [(1,), (2,), (3, 9, 10), (4,), (5,), (6,), (7,), (8,)]
        self.assertEqual([live.rings(), live.depths()], [rings, (0,) * 10])

    def test_sizes_and_moments(self):
        live = Live(CHART)
        live.turn()
        live.lead(3, 1)
        live.lead(3, 3)
        live.lead(3, 2)
        self.assertEqual(live.sizes(), [(1, 3, 1), (1, 3, 1), (1, 3, 1), (2, 3, 0), (1, 3, 1)])
        self.assertEqual(live.moments(), [(0, 1, 2, 4), (3,)])
        live.undo()
        self.assertEqual([live.moments(), live.sizes()[-1]], [[(0, 1, 2), (3,)], (2, 3, 0)])

    def test_would_of_no_deeds(self):
        for live in (Live(CHART), WholeLive(CHART), Live(STAR)):
            before = state(live)
            for value in NO_DEEDS:
                self.assertEqual(raised_by(self, live.would, value), (InvalidDeeds, {"index": 0}), value)
            self.assertEqual(state(live), before)

    def test_would_of_wrong_values(self):
        live = Live(CHART)
        for value in NOT_PLACES[:4] + [None, (), [0], ([0],), "0", deep(0, 38), 5]:
            for name in ("leave", "step_in", "send", "come"):
                self.assertEqual(raised_by(self, live.would, (name, value)), (InvalidPlace, {}), (name, value))
        for value in NOT_NUMBERS:
            self.assertEqual(raised_by(self, live.would, ("go", value)), (InvalidCount, {}), value)
        self.assertEqual(raised_by(self, live.would, ("lead", 0, None)), (InvalidPlace, {}))
        self.assertEqual(raised_by(self, live.would, ("lead", [0], 0)), (InvalidPlace, {}))
        self.assertEqual(live.would(("go", 10 ** 89)), (1, 3, 1, 1))

    def test_lists_are_new(self):
        live = Live(CHART)
        live.go(1)
        for tell in (lambda: live.deeds, live.rings, live.sizes, live.moments):
            told, before = tell(), tell()
            self.assertIs(type(told), list)
            told.clear()
            self.assertEqual(tell(), before)
        told = live.deeds
        told.append(("turn",))
        self.assertEqual([live.deeds, live.undo(), live.deeds], [[("go", 1)], ("go", 1), []])

    def test_kinds_of_values(self):
        live = Live(CHART)
        live.come(4)
        self.assertEqual([type(live.chart), type(live.start), type(live.marks), type(live.walk(3))], [tuple] * 4)
        self.assertEqual(
            [type(live.depths()), type(live.next_mark), type(live.walker), type(live.depth)], [tuple] + [int] * 3
        )
        for told in (live.rings(), live.sizes(), live.moments(), live.deeds):
            self.assertEqual({type(row) for row in told}, {tuple})

    def test_sixty_deeds_in_time(self):
        for seed, chart in enumerate(CHARTS_OF_TEN):
            draw, plain, live = Draw(seed + 3000), PlainLive(chart), Live(chart)
            while len(live.deeds) < 60:
                deed = drawn_deed(draw, plain)
                if plain_error(plain, False, deed):
                    continue
                told_in_time(self, live.would, deed)
                told_in_time(self, getattr(live, deed[0]), *deed[1:])
                plainly_deed(plain, *deed)
                if len(live.deeds) % 5 == 0:
                    told_in_time(self, live.begin)
            self.assertEqual(live.depth, 12)
            for tell in (
                live.rings, live.depths, live.sizes, live.moments, live.twin, lambda: live == live.twin(),
                lambda: live.walk(1000), lambda: live.would(("go", NINETY_DIGITS)),
                lambda: [live.chart, live.start, live.marks, live.next_mark, live.walker, live.deeds, live.depth],
                live.keep, live.undo, live.drop,
            ):
                told_in_time(self, tell)
            self.assertEqual((len(live.deeds), live.depth), (55, 10))


if __name__ == "__main__":
    unittest.main()
