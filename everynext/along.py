"""Charts that go along with a chart: it does not matter which of the two goes first."""

from everynext.charts import step, way
from everynext.checks import (
    check_chart,
    check_chart_as_long,
    check_number,
    check_place,
    check_wishes,
    is_chart_value,
)
from everynext.errors import NotAlong
from everynext.mappings import Pair, count_with_wishes, goals_of, map_number, nth_map
from everynext.rings import height, period, ring_of, rings


def first_hitch(chart, other_chart):
    failing = [place for place in range(len(chart)) if other_chart[chart[place]] != chart[other_chart[place]]]
    return failing[0] if failing else None


def goes_along(chart, value):
    """Whether the value is a chart that goes along with the chart."""
    check_chart(chart)
    return is_chart_value(value) and len(value) == len(chart) and first_hitch(chart, value) is None


def hitch(chart, other_chart):
    """The least place at which the other chart does not go along, or None."""
    check_chart(chart)
    check_chart_as_long(chart, other_chart)
    return first_hitch(chart, other_chart)


def along_count(chart):
    """How many charts go along with the chart."""
    return count_through(chart, ())


def nth_along(chart, number):
    """Of the charts that go along the one with this index, or None."""
    check_chart(chart)
    check_number(number)
    return nth_map(Pair(chart, chart), (), number)


def along_number(chart, other_chart):
    """The index of the other chart among those that go along."""
    check_chart(chart)
    check_chart_as_long(chart, other_chart)
    failing = first_hitch(chart, other_chart)
    if failing is not None:
        raise NotAlong(failing)
    return map_number(Pair(chart, chart), other_chart)


def count_through(chart, wishes):
    """How many charts go along and fulfil all wishes."""
    check_chart(chart)
    check_wishes(chart, chart, wishes)
    return count_with_wishes(Pair(chart, chart), dict(wishes))


def first_through(chart, wishes):
    """The first chart that goes along and fulfils all wishes, or None."""
    check_chart(chart)
    check_wishes(chart, chart, wishes)
    return nth_map(Pair(chart, chart), wishes, 0)


def goals(chart, place):
    """The lot of the places to which some chart that goes along leads the place."""
    check_chart(chart)
    check_place(chart, place)
    return goals_of(Pair(chart, chart), place)


def goes_to(chart, place, goal):
    """Whether some chart that goes along leads the place to the goal."""
    check_chart(chart)
    check_place(chart, place)
    check_place(chart, goal)
    return goal in goals(chart, place)


def going_parts(chart):
    """The lots of places each of which goes to the other ones and back."""
    check_chart(chart)
    pair = Pair(chart, chart)
    found = [goals_of(pair, place) for place in range(len(chart))]
    lots = [tuple([goal for goal in found[place] if place in found[goal]]) for place in range(len(chart))]
    return tuple(sorted(set(lots)))


def least_rings(chart):
    """For each length of rings that is a multiple of no other one, ascending, the first ring of this length."""
    told = []
    for ring in sorted(rings(chart), key=len):
        if all([len(ring) % len(least) != 0 for least in told]):
            told.append(ring)
    return told


def fewest_values(chart):
    """The least number of places to which a chart that goes along leads all of them."""
    return sum([len(ring) for ring in least_rings(chart)])


def narrowest(chart):
    """A chart that goes along and leads to so few places."""
    check_chart(chart)
    least = least_rings(chart)
    told = []
    for place in range(len(chart)):
        around = ring_of(chart, place)
        goal_ring = [ring for ring in least if len(around) % len(ring) == 0][0]
        # The place is as many steps ahead of the first place of its ring as its goal is of that of the goal's ring.
        ahead = way(chart, place).index(around[0])
        told.append(goal_ring[-ahead % len(goal_ring)])
    return tuple(told)


def step_number(chart, other_chart):
    """The least number such that this step of the chart is the other chart, or None."""
    check_chart(chart)
    check_chart_as_long(chart, other_chart)
    for number in range(step_count(chart)):
        if step(chart, number) == other_chart:
            return number
    return None


def step_count(chart):
    """How many unlike far steps the chart has."""
    return height(chart) + period(chart)
