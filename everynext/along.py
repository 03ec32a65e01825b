"""Charts that go along with a chart: it does not matter which of the two goes first."""

from everynext.charts import step, way
from everynext.checks import (
    check_chart,
    check_chart_as_long,
    check_number,
    check_place,
    check_wishes,
    is_chart_value,
)
from everynext.errors import NotAlong
from everynext.rings import Frame, height, period, ring_of, rings


def first_hitch(chart, other_chart):
    failing = [place for place in range(len(chart)) if other_chart[chart[place]] != chart[other_chart[place]]]
    return failing[0] if failing else None


def goes_along(chart, value):
    """Whether the value is a chart that goes along with the chart."""
    check_chart(chart)
    return is_chart_value(value) and len(value) == len(chart) and first_hitch(chart, value) is None


def hitch(chart, other_chart):
    """The least place at which the other chart does not go along, or None."""
    check_chart(chart)
    check_chart_as_long(chart, other_chart)
    return first_hitch(chart, other_chart)


def ways_over(chart, frame, wished, place, goal):
    """In how many ways the tree over the place can be led, the place itself to the goal."""
    if wished.get(place, goal) != goal:
        return 0
    told = 1
    for child in frame.under[place]:
        told = told * sum([
            ways_over(chart, frame, wished, child, ahead) for ahead in range(len(chart)) if chart[ahead] == goal
        ])
    return told


def ways_round(chart, frame, wished, ring, other_ring):
    """In how many ways the piece with the ring can be led so that the ring goes round the other one."""
    told = 0
    for begin in range(len(other_ring)):
        ways = 1
        for index, place in enumerate(ring):
            goal = other_ring[(begin + index) % len(other_ring)]
            ways = ways * ways_over(chart, frame, wished, place, goal)
        told = told + ways
    return told


def count_wished(chart, frame, wished):
    """How many charts go along and lead each place for which a goal is wished to this one."""
    told = 1
    for ring in frame.around:
        told = told * sum([
            ways_round(chart, frame, wished, ring, other) for other in frame.around if len(ring) % len(other) == 0
        ])
    return told


def counts_by_goal(chart, frame, wished, place):
    """How many charts go along, as is wished, and lead the place to 0, to 1, and so on."""
    return [
        count_wished(chart, frame, {**wished, place: goal}) if wished.get(place, goal) == goal else 0
        for goal in range(len(chart))
    ]


def nth_wished(chart, wishes, number):
    """Of the charts that go along and fulfil the wishes the one with this index, or None."""
    frame = Frame(chart)
    wished = dict(wishes)
    if number >= count_wished(chart, frame, wished):
        return None
    left = number
    told = []
    for place in range(len(chart)):
        counts = counts_by_goal(chart, frame, wished, place)
        goal = 0
        while left >= counts[goal]:
            left = left - counts[goal]
            goal = goal + 1
        told.append(goal)
        wished[place] = goal
    return tuple(told)


def along_count(chart):
    """How many charts go along with the chart."""
    return count_through(chart, ())


def nth_along(chart, number):
    """Of the charts that go along the one with this index, or None."""
    check_chart(chart)
    check_number(number)
    return nth_wished(chart, (), number)


def along_number(chart, other_chart):
    """The index of the other chart among those that go along."""
    check_chart(chart)
    check_chart_as_long(chart, other_chart)
    failing = first_hitch(chart, other_chart)
    if failing is not None:
        raise NotAlong(failing)
    frame = Frame(chart)
    told = 0
    for place in range(len(chart)):
        counts = counts_by_goal(chart, frame, dict(enumerate(other_chart[:place])), place)
        told = told + sum(counts[:other_chart[place]])
    return told


def count_through(chart, wishes):
    """How many charts go along and fulfil all wishes."""
    check_chart(chart)
    check_wishes(chart, chart, wishes)
    return count_wished(chart, Frame(chart), dict(wishes))


def first_through(chart, wishes):
    """The first chart that goes along and fulfils all wishes, or None."""
    check_chart(chart)
    check_wishes(chart, chart, wishes)
    return nth_wished(chart, wishes, 0)


def goals_of(chart, frame, place):
    counts = counts_by_goal(chart, frame, {}, place)
    return tuple([goal for goal in range(len(chart)) if counts[goal] > 0])


def goals(chart, place):
    """The lot of the places to which some chart that goes along leads the place."""
    check_chart(chart)
    check_place(chart, place)
    return goals_of(chart, Frame(chart), place)


def goes_to(chart, place, goal):
    """Whether some chart that goes along leads the place to the goal."""
    check_chart(chart)
    check_place(chart, place)
    check_place(chart, goal)
    return goal in goals_of(chart, Frame(chart), place)


def going_parts(chart):
    """The lots of places each of which goes to the other ones and back."""
    check_chart(chart)
    frame = Frame(chart)
    found = [goals_of(chart, frame, place) for place in range(len(chart))]
    lots = [tuple([goal for goal in found[place] if place in found[goal]]) for place in range(len(chart))]
    return tuple(sorted(set(lots)))


def least_rings(chart):
    """For each length of rings that is a multiple of no other one, ascending, the first ring of this length."""
    told = []
    for ring in sorted(rings(chart), key=len):
        if all([len(ring) % len(least) != 0 for least in told]):
            told.append(ring)
    return told


def fewest_values(chart):
    """The least number of places to which a chart that goes along leads all of them."""
    return sum([len(ring) for ring in least_rings(chart)])


def narrowest(chart):
    """A chart that goes along and leads to so few places."""
    check_chart(chart)
    least = least_rings(chart)
    told = []
    for place in range(len(chart)):
        around = ring_of(chart, place)
        goal_ring = [ring for ring in least if len(around) % len(ring) == 0][0]
        # The place is as many steps ahead of the first place of its ring as its goal is of that of the goal's ring.
        ahead = way(chart, place).index(around[0])
        told.append(goal_ring[-ahead % len(goal_ring)])
    return tuple(told)


def step_number(chart, other_chart):
    """The least number such that this step of the chart is the other chart, or None."""
    check_chart(chart)
    check_chart_as_long(chart, other_chart)
    for number in range(step_count(chart)):
        if step(chart, number) == other_chart:
            return number
    return None


def step_count(chart):
    """How many unlike far steps the chart has."""
    return height(chart) + period(chart)
