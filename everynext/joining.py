"""Two places of a chart, and charts that are put together or changed at some places."""

from itertools import combinations

from everynext.charts import step, way
from everynext.checks import MOST_PLACES, check_chart, check_place
from everynext.errors import InvalidPlace, TooMany
from everynext.likenesses import together_after
from everynext.rings import height, rings


def check_room(count):
    if count > MOST_PLACES:
        raise TooMany(MOST_PLACES)


def steps_to(chart, place, other_place):
    """The least number of steps that lead from the place to the other one, or None."""
    check_chart(chart)
    check_place(chart, place)
    check_place(chart, other_place)
    passed = way(chart, place)
    return passed.index(other_place) if other_place in passed else None


def comers(chart, place):
    """The lot of the places that come to the place, itself counted."""
    check_chart(chart)
    check_place(chart, place)
    return tuple([x for x in range(len(chart)) if place in way(chart, x)])


def both_come(chart, place, other_place):
    """The lot of the places to which both come."""
    check_chart(chart)
    check_place(chart, place)
    check_place(chart, other_place)
    passed = way(chart, other_place)
    return tuple(sorted([x for x in way(chart, place) if x in passed]))


def first_common(chart, place, other_place):
    """The steps that lead the one and the other to a place where both come, as few as can be, and this place."""
    check_chart(chart)
    check_place(chart, place)
    check_place(chart, other_place)
    here, there = way(chart, place), way(chart, other_place)
    found = [(here.index(x) + there.index(x), here.index(x), there.index(x), x) for x in here if x in there]
    return min(found)[1:] if found else None


def together_steps(chart, place, other_place):
    """The least number of steps with which the two come to one place, or None."""
    check_chart(chart)
    check_place(chart, place)
    check_place(chart, other_place)
    here, there = place, other_place
    # Unlike places on rings never come together, and all places have come to rings by then.
    for number in range(len(chart)):
        if here == there:
            return number
        here, there = chart[here], chart[there]
    return None


def together_counts(chart):
    """How many pairs of unlike places have come together behind 0, 1, .. steps, up to the height."""
    check_chart(chart)
    pairs = list(combinations(range(len(chart)), 2))
    reached = [step(chart, number) for number in range(height(chart) + 1)]
    return [len([x for x, y in pairs if row[x] == row[y]]) for row in reached]


def together_parts(chart):
    """The parts by which places are together that come together behind some number of steps."""
    check_chart(chart)
    return together_after(chart, len(chart))


def beside(chart, other_chart):
    """Both charts, the places of the other one behind those of the first one."""
    check_chart(chart)
    check_chart(other_chart)
    check_room(len(chart) + len(other_chart))
    return chart + tuple([len(chart) + place for place in other_chart])


def hung(chart, place, other_chart, other_place):
    """Both charts, but the next place of the other one's place is the place of the first one."""
    check_chart(chart)
    check_place(chart, place)
    check_chart(other_chart)
    check_place(other_chart, other_place)
    told = list(beside(chart, other_chart))
    told[len(chart) + other_place] = place
    return tuple(told)


def exchanged(chart, place, other_place):
    """The chart in which the two have exchanged their next places."""
    check_chart(chart)
    check_place(chart, place)
    check_place(chart, other_place)
    if place == other_place:
        raise InvalidPlace("a place has nothing to exchange with itself")
    told = list(chart)
    told[place] = chart[other_place]
    told[other_place] = chart[place]
    return tuple(told)


def stepped_in(chart, place):
    """The chart with one place more, which stands between the place and its next one."""
    check_chart(chart)
    check_place(chart, place)
    check_room(len(chart) + 1)
    return chart[:place] + (len(chart),) + chart[place + 1:] + (chart[place],)


def heir(chart, place):
    """Where the other places lead that led to the place when it goes: its next place, or else the least of them."""
    others = [x for x in range(len(chart)) if chart[x] == place and x != place]
    return chart[place] if chart[place] != place else min(others, default=place)


def less_place(chart, place):
    """The chart without the place."""
    check_chart(chart)
    check_place(chart, place)
    if len(chart) == 1:
        raise InvalidPlace("the only place cannot go")
    further = heir(chart, place)
    led = [further if goal == place else goal for goal in chart]
    return tuple([goal - 1 if goal > place else goal for goal in led[:place] + led[place + 1:]])


def turned(chart):
    """The chart whose rings are gone through the other way round."""
    check_chart(chart)
    told = list(chart)
    for ring in rings(chart):
        for place in ring:
            told[chart[place]] = place
    return tuple(told)
