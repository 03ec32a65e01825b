"""The facts L1 to L5, over all charts of up to four places and some of up to ten, and drawn rows of deeds."""

import unittest

from everynext.codes import are_alike
from everynext.errors import NotWhole
from everynext.live import Live, WholeLive, replay
from everynext.rings import depth, on_rings, pieces
from tests.helpers import FACT_CHARTS, LARGE_CHARTS, ONE_RING, state_of
from tests.plain_lives import NUMBERS, Draw, PlainLive, drawn_deed

WHOLE_CHARTS = [chart for chart in FACT_CHARTS if len(pieces(chart)) == 1]
# Charts with more deeds than the others.
MORE = LARGE_CHARTS + [(0,)]


def state(live):
    """All answers but those about spans."""
    return (
        live.chart, live.start, live.marks, live.next_mark, live.walker, live.deeds, live.walk(9), live.rings(),
        live.depths(), live.sizes(), live.moments(),
    )


def plain_of(live):
    """What drawn_deed asks for."""
    plain = PlainLive(())
    plain.nexts = {mark: live.marks[goal] for mark, goal in zip(live.marks, live.chart)}
    plain.next_mark, plain.walker = live.next_mark, live.walker
    return plain


def error_of(deed, live):
    """What the deed raised; None if it was done."""
    try:
        getattr(live, deed[0])(*deed[1:])
    except ValueError as error:
        return state_of(error)
    return None


def drawn_lives(rounds=12, more=60):
    """Live charts behind drawn deeds."""
    for seed, chart in enumerate(FACT_CHARTS):
        for cls in (Live, WholeLive):
            if cls is Live or chart in WHOLE_CHARTS:
                live, draw = cls(chart), Draw(seed + 100)
                for _ in range(more if chart in MORE else rounds):
                    error_of(drawn_deed(draw, plain_of(live)), live)
                yield live


class FactsTest(unittest.TestCase):
    def test_l1(self):
        for chart in FACT_CHARTS:
            for number in NUMBERS:
                for further in NUMBERS[::2]:
                    one, other = Live(chart), Live(chart)
                    one.go(number)
                    one.go(further)
                    other.go(number + further)
                    self.assertEqual(one.walker, other.walker, (chart, number, further))

    def test_l2(self):
        for live in drawn_lives():
            place = live.marks.index(live.walker)
            deep = depth(live.chart, place)
            ringed = [live.marks[x] for x in on_rings(live.chart)]
            walk = live.walk(40)
            self.assertEqual([mark in ringed for mark in walk], [k >= deep for k in range(41)], live.deeds)
            ring = [ring for ring in live.rings() if walk[deep] in ring][0]
            begin = ring.index(walk[deep])
            around = (ring[begin:] + ring[:begin]) * 41
            self.assertEqual(walk[deep:], around[:41 - deep], live.deeds)

    def test_l3(self):
        for live in drawn_lives():
            if type(live) is not WholeLive:
                continue
            deeds = [(name, mark) for name in ("leave", "step_in", "come") for mark in live.marks] + [("turn",)]
            for deed in deeds:
                error = error_of(deed, live.twin())
                self.assertTrue(error is None or error[0] is not NotWhole, (live.start, live.deeds, deed))
            error = error_of(("come", live.next_mark), live.twin())
            if len(live.marks) < 10:
                self.assertEqual(error, (NotWhole, {"pieces": (live.marks, (live.next_mark,))}))

    def test_l4(self):
        for live in drawn_lives():
            twin, sizes = live.twin(), live.sizes()
            charts = [twin.chart]
            while twin.deeds:
                count = len(twin.marks)
                name = twin.undo()[0]
                changed = {"come": 1, "step_in": 1, "leave": -1}.get(name, 0)
                self.assertEqual(count - len(twin.marks), changed)
                charts.insert(0, twin.chart)
            found = {}
            for moment in live.moments():
                for number in moment:
                    found[number] = moment
                    self.assertEqual(sizes[number], sizes[moment[0]])
                    self.assertTrue(are_alike(charts[number], charts[moment[0]]))
            self.assertEqual(sorted(found), list(range(len(live.deeds) + 1)))
            firsts = [charts[moment[0]] for moment in live.moments()]
            for index, chart in enumerate(firsts):
                self.assertFalse(any(are_alike(chart, other) for other in firsts[:index]))

    def test_l5(self):
        for live in drawn_lives():
            whole = type(live) is WholeLive
            again = replay(live.start, live.deeds, whole=whole)
            self.assertTrue(again == live)
            self.assertEqual((type(again), state(again)), (type(live), state(live)))
            # Spans, questions, refused deeds and what is undone leave nothing.
            again.begin()
            again.go(3)
            again.begin()
            error_of(("lead", live.next_mark + 1, 0), again)
            again.would(("send", again.marks[-1]))
            again.keep()
            again.drop()
            self.assertEqual((state(again), again == live), (state(live), True))

    def test_l5_the_way_to_the_deeds_does_not_matter(self):
        live = Live(ONE_RING)
        for deed in (("leave", 3), ("come", 4), ("lead", 10, 0), ("go", 99)):
            error_of(deed, live)
        other = Live(ONE_RING)
        other.begin()
        other.leave(3)
        other.begin()
        other.step_in(5)
        other.drop()
        other.come(4)
        other.keep()
        other.lead(10, 0)
        other.turn()
        other.undo()
        other.go(99)
        self.assertEqual((state(other), other == live), (state(live), True))


if __name__ == "__main__":
    unittest.main()
