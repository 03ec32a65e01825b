"""Live charts, which deeds change."""

from everynext.checks import check_chart, check_within
from everynext.errors import InvalidDeeds, NextError, NoSpan, NothingToUndo, NotWhole
from everynext.live_states import first_state, is_deed, marks_of_pieces, state_behind
from everynext.rings import depths, rings

MOST_STEPS_OF_WALK = 1000


class Live:
    """A chart that deeds change, and a walker that stands on one of its places."""

    def __init__(self, chart):
        check_chart(chart)
        self.start = chart
        self._deeds = []
        self._states = [first_state(chart)]
        self._spans = []
        self._show()

    def _show(self):
        state = self._states[-1]
        self.chart = state.chart
        self.marks = state.marks
        self.next_mark = state.next_mark
        self.walker = state.walker

    def _check(self, state):
        """Any chart will do; those that are whole ask for more."""

    def _behind(self, deed):
        state = state_behind(self._states[-1], deed)
        self._check(state)
        return state

    def _act(self, *deed):
        self._states.append(self._behind(deed))
        self._deeds.append(deed)
        self._show()

    @property
    def deeds(self):
        """The list of all deeds, as tuples of a name and values."""
        return list(self._deeds)

    @property
    def depth(self):
        """How many spans are open."""
        return len(self._spans)

    def come(self, mark):
        """A place comes that leads to the mark, or to itself for the next mark; its mark is returned."""
        self._act("come", mark)
        return self.marks[-1]

    def leave(self, mark):
        """The place goes."""
        self._act("leave", mark)

    def lead(self, mark, other_mark):
        """The one place leads to the other one from now on."""
        self._act("lead", mark, other_mark)

    def exchange(self, mark, other_mark):
        """The two places exchange their next places."""
        self._act("exchange", mark, other_mark)

    def step_in(self, mark):
        """A place comes that stands between the place and its next one; its mark is returned."""
        self._act("step_in", mark)
        return self.marks[-1]

    def turn(self):
        """All rings are gone through the other way round from now on."""
        self._act("turn")

    def go(self, number):
        """The walker goes so many steps."""
        self._act("go", number)

    def send(self, mark):
        """The walker stands on the mark from now on."""
        self._act("send", mark)

    def walk(self, number):
        """The marks on which the walker would stand behind 0, 1, .. and so many steps."""
        check_within(number, 0, MOST_STEPS_OF_WALK)
        place = self.marks.index(self.walker)
        told = [self.walker]
        for _ in range(number):
            place = self.chart[place]
            told.append(self.marks[place])
        return tuple(told)

    def rings(self):
        """The rings, told by marks, ascending."""
        return [tuple([self.marks[place] for place in ring]) for ring in rings(self.chart)]

    def depths(self):
        """The depths of the places, in the sequence of their marks."""
        return depths(self.chart)

    def sizes(self):
        """The numbers of pieces, periods and heights behind 0, 1, .. and all deeds."""
        return [state.size() for state in self._states]

    def moments(self):
        """The numbers of deeds behind which the charts are alike, ascending."""
        found = {}
        for number, state in enumerate(self._states):
            found.setdefault(state.kind(), []).append(number)
        return sorted([tuple(numbers) for numbers in found.values()])

    def would(self, deed):
        """The number of pieces, the period, the height and the walker behind the deed, if it came next."""
        if not is_deed(deed):
            raise InvalidDeeds(0)
        state = self._behind(deed)
        return state.size() + (state.walker,)

    def undo(self):
        """Takes the last deed back and returns it."""
        begun = self._spans[-1] if self._spans else 0
        if len(self._deeds) == begun:
            raise NothingToUndo("no deed is there that may be taken back")
        self._states.pop()
        self._show()
        return self._deeds.pop()

    def begin(self):
        """Opens a span."""
        self._spans.append(len(self._deeds))

    def _end(self):
        if not self._spans:
            raise NoSpan("no span is open")
        return self._spans.pop()

    def keep(self):
        """Ends the innermost span and leaves its deeds."""
        self._end()

    def drop(self):
        """Ends the innermost span and takes its deeds back."""
        begun = self._end()
        self._deeds = self._deeds[:begun]
        self._states = self._states[:begun + 1]
        self._show()

    def _anew(self):
        return Live(self.start)

    def twin(self):
        """An independent one with equal start and deeds, and no span."""
        told = self._anew()
        told._deeds = list(self._deeds)
        told._states = list(self._states)
        told._show()
        return told

    def twin_with_spans(self):
        """A twin in which the same spans are open."""
        told = self.twin()
        told._spans = list(self._spans)
        return told

    def __eq__(self, other):
        if not isinstance(other, Live) or self.__class__.__name__ != other.__class__.__name__:
            return False
        return self.start == other.start and self._deeds == other._deeds


class WholeLive(Live):
    """A live chart that has one piece at all times."""

    def __init__(self, chart):
        Live.__init__(self, chart)
        self._check(first_state(chart))

    def _check(self, state):
        found = marks_of_pieces(state)
        if len(found) > 1:
            raise NotWhole(found)

    def _anew(self):
        return WholeLive(self.start)


def act(live, deed):
    """Does the deed, a tuple as in deeds, and returns what its method returns."""
    if not is_deed(deed):
        raise InvalidDeeds(0)
    live._act(*deed)
    return live.marks[-1] if deed[0] in ("come", "step_in") else None


def replay(chart, deeds, *, whole=False):
    """A live chart with these deeds."""
    live = WholeLive(chart) if whole is True else Live(chart)
    if not isinstance(deeds, list):
        raise InvalidDeeds(0)
    for index, deed in enumerate(deeds):
        try:
            act(live, deed)
        except NextError:
            raise InvalidDeeds(index) from None
    return live
