"""What a live chart is at one moment, and what each deed makes of it."""

from everynext.charts import after, with_next
from everynext.checks import is_integer
from everynext.codes import chart_by_nest, chart_code
from everynext.errors import InvalidPlace, Refused
from everynext.joining import check_room, exchanged, less_place, stepped_in, turned
from everynext.rings import height, period, pieces, rings


class State:
    """A chart, the marks of its places, the next mark, and the mark on which the walker stands."""

    def __init__(self, chart, marks, next_mark, walker):
        self.chart = chart
        self.marks = marks
        self.next_mark = next_mark
        self.walker = walker
        self.told_size = None
        self.told_kind = None

    def size(self):
        """The number of pieces, the period and the height."""
        # Told once only, as the sizes behind all deeds are asked for again and again.
        if self.told_size is None:
            self.told_size = len(rings(self.chart)), period(self.chart), height(self.chart)
        return self.told_size

    def kind(self):
        """A chart that is the same one for all charts that are alike."""
        if self.told_kind is None:
            self.told_kind = chart_by_nest(chart_code(self.chart))
        return self.told_kind


def first_state(chart):
    return State(chart, tuple(range(len(chart))), len(chart), 0)


def place_of(state, mark):
    if not is_integer(mark) or mark not in state.marks:
        raise InvalidPlace("no place has this mark")
    return state.marks.index(mark)


def marks_of_pieces(state):
    """The lots of the marks of the places that come to one ring, ascending."""
    return tuple([tuple([state.marks[place] for place in lot]) for lot in pieces(state.chart)])


def with_chart(state, chart):
    return State(chart, state.marks, state.next_mark, state.walker)


def with_comer(state, chart):
    """The state with the chart that has one place more, which takes the next mark."""
    return State(chart, state.marks + (state.next_mark,), state.next_mark + 1, state.walker)


def come(state, mark):
    alone = is_integer(mark) and mark == state.next_mark
    place = len(state.chart) if alone else place_of(state, mark)
    check_room(len(state.chart) + 1)
    return with_comer(state, state.chart + (place,))


def leave(state, mark):
    place = place_of(state, mark)
    if len(state.chart) == 1:
        raise Refused("the only place cannot leave")
    marks = state.marks[:place] + state.marks[place + 1:]
    walker = state.walker
    if walker == mark:
        following = state.marks[state.chart[place]]
        walker = following if following != mark else marks[0]
    return State(less_place(state.chart, place), marks, state.next_mark, walker)


def lead(state, mark, other_mark):
    place = place_of(state, mark)
    goal = place_of(state, other_mark)
    if state.chart[place] == goal:
        raise Refused("the place leads there already")
    return with_chart(state, with_next(state.chart, place, goal))


def exchange(state, mark, other_mark):
    place = place_of(state, mark)
    other_place = place_of(state, other_mark)
    if place == other_place:
        raise InvalidPlace("a place has nothing to exchange with itself")
    if state.chart[place] == state.chart[other_place]:
        raise Refused("both have the same next place")
    return with_chart(state, exchanged(state.chart, place, other_place))


def step_in(state, mark):
    place = place_of(state, mark)
    return with_comer(state, stepped_in(state.chart, place))


def turn(state):
    if all([len(ring) < 3 for ring in rings(state.chart)]):
        raise Refused("no ring has three places or more")
    return with_chart(state, turned(state.chart))


def go(state, number):
    place = after(state.chart, state.marks.index(state.walker), number)
    return State(state.chart, state.marks, state.next_mark, state.marks[place])


def send(state, mark):
    place = place_of(state, mark)
    return State(state.chart, state.marks, state.next_mark, state.marks[place])


# What each deed makes of a state, and with how many values it is called.
DEEDS = {
    "come": come, "leave": leave, "lead": lead, "exchange": exchange, "step_in": step_in, "turn": turn, "go": go,
    "send": send,
}
COUNTS_OF_VALUES = {
    "come": 1, "leave": 1, "lead": 2, "exchange": 2, "step_in": 1, "turn": 0, "go": 1, "send": 1,
}


def is_deed(value):
    """Whether the value is a tuple of the name of a deed and as many values as it is called with."""
    if not isinstance(value, tuple) or value == () or not isinstance(value[0], str):
        return False
    return len(value) - 1 == COUNTS_OF_VALUES.get(value[0], -1)


def state_behind(state, deed):
    """The state behind the deed."""
    change = DEEDS[deed[0]]
    values = deed[1:]
    return change(state, *values)
