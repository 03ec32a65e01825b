"""A plain live chart to hold the program against, told by marks alone, and drawn rows of deeds."""

import math

from everynext.errors import InvalidPlace, NotWhole, Refused, TooMany
from tests.helpers import is_plainly_on_ring, plain_chart_code, plain_depth, plain_ring_of, walked


class PlainLive:
    """The next mark of each mark, the next mark to be given, and the walker."""

    def __init__(self, chart):
        self.nexts = dict(enumerate(chart))
        self.next_mark = len(chart)
        self.walker = 0

    def marks(self):
        return tuple(sorted(self.nexts))

    def chart(self):
        marks = self.marks()
        return tuple(marks.index(self.nexts[mark]) for mark in marks)

    def copy(self):
        told = PlainLive(())
        told.nexts, told.next_mark, told.walker = dict(self.nexts), self.next_mark, self.walker
        return told

    def after(self, mark, number):
        marks = self.marks()
        return marks[walked(self.chart(), marks.index(mark), number)]

    def rings(self):
        chart, marks = self.chart(), self.marks()
        found = {plain_ring_of(chart, place) for place in range(len(chart))}
        return sorted(tuple(marks[place] for place in ring) for ring in found)

    def pieces(self):
        chart, marks = self.chart(), self.marks()
        rings = [plain_ring_of(chart, place) for place in range(len(chart))]
        return tuple(sorted({tuple(m for m, other in zip(marks, rings) if other == ring) for ring in rings}))

    def depths(self):
        return tuple(plain_depth(self.chart(), place) for place in range(len(self.nexts)))

    def size(self):
        return len(self.rings()), math.lcm(*[len(ring) for ring in self.rings()]), max(self.depths())

    def kind(self):
        return plain_chart_code(self.chart())

    def turned(self):
        chart, marks = self.chart(), self.marks()
        ringed = [mark for place, mark in enumerate(marks) if is_plainly_on_ring(chart, place)]
        return {**self.nexts, **{self.nexts[mark]: mark for mark in ringed}}

    def give(self, goal):
        self.nexts[self.next_mark] = goal
        self.next_mark += 1
        return self.next_mark - 1


def check_marks(plain, marks):
    for mark in marks:
        if type(mark) is not int or mark not in plain.nexts:
            raise InvalidPlace("")


def plainly_leave(plain, mark):
    goal = plain.nexts.pop(mark)
    others = sorted(other for other in plain.nexts if plain.nexts[other] == mark)
    for other in others:
        plain.nexts[other] = others[0] if goal == mark else goal
    if plain.walker == mark:
        plain.walker = min(plain.nexts) if goal == mark else goal


def plainly_deed(plain, name, *values):
    """Does the deed, which must not be refused."""
    if name == "come":
        return plain.give(values[0])
    if name == "step_in":
        told = plain.give(plain.nexts[values[0]])
        plain.nexts[values[0]] = told
        return told
    if name == "leave":
        plainly_leave(plain, *values)
    elif name == "lead":
        plain.nexts[values[0]] = values[1]
    elif name == "exchange":
        plain.nexts[values[0]], plain.nexts[values[1]] = plain.nexts[values[1]], plain.nexts[values[0]]
    elif name == "turn":
        plain.nexts = plain.turned()
    elif name == "go":
        plain.walker = plain.after(plain.walker, values[0])
    else:
        plain.walker = values[0]
    return None


def plain_refusal(plain, name, *values):
    """The error of the deed, None if there is none; numbers of steps are right ones."""
    try:
        if name != "go" and not (name == "come" and type(values[0]) is int and values[0] == plain.next_mark):
            check_marks(plain, values)
    except InvalidPlace:
        return InvalidPlace
    if name == "exchange" and values[0] == values[1]:
        return InvalidPlace
    refused = (
        name == "leave" and len(plain.nexts) == 1
        or name == "lead" and plain.nexts[values[0]] == values[1]
        or name == "exchange" and plain.nexts[values[0]] == plain.nexts[values[1]]
        or name == "turn" and max(len(ring) for ring in plain.rings()) < 3
    )
    if refused:
        return Refused
    if name in ("come", "step_in") and len(plain.nexts) == 10:
        return TooMany
    return None


def plain_error(plain, whole, deed):
    """(class, fields) of the error that the deed raises, or None."""
    found = plain_refusal(plain, *deed)
    if found is not None:
        return found, {"count": 10} if found is TooMany else {}
    behind = plain.copy()
    plainly_deed(behind, *deed)
    if whole and len(behind.pieces()) > 1:
        return NotWhole, {"pieces": behind.pieces()}
    return None


class Draw:
    """Integers that look drawn by lot, the same ones at each run."""

    def __init__(self, seed):
        self.state = seed * 7919 + 17

    def below(self, bound):
        self.state = (self.state * 6364136223846793005 + 1442695040888963407) % 2 ** 64
        return (self.state >> 33) % bound

    def one_of(self, values):
        return values[self.below(len(values))]


NAMES = ("come", "leave", "lead", "exchange", "step_in", "turn", "go", "send")
NUMBERS = (0, 1, 2, 3, 7, 1000, 10 ** 20 + 1, 10 ** 89 + 5)


def drawn_mark(draw, plain):
    """Mostly a mark that is there, at times the next one, one beyond, or one that has gone."""
    chance = draw.below(12)
    if chance == 0:
        return plain.next_mark
    if chance == 1:
        return draw.below(plain.next_mark + 2)
    return draw.one_of(plain.marks())


def drawn_deed(draw, plain):
    name = draw.one_of(NAMES)
    if name == "go":
        return name, draw.one_of(NUMBERS)
    count = {"lead": 2, "exchange": 2, "turn": 0}.get(name, 1)
    return (name, *[drawn_mark(draw, plain) for _ in range(count)])
