"""Maps of the places of one chart to those of another one that go along with the next steps."""

from everynext.charts import leading
from everynext.numbering import nth_by_ways, number_by_ways
from everynext.rings import Frame, rings


class Pair:
    """Two charts, with what is asked for again and again as the places of the one are led to those of the other."""

    def __init__(self, chart, other_chart):
        self.chart = chart
        self.frame = Frame(chart)
        self.other_chart = other_chart
        self.other_rings = rings(other_chart)
        self.ahead = [leading(other_chart, goal) for goal in range(len(other_chart))]


def ways_of_trees(pair, wished, gone):
    """For each place and each goal in how many ways the tree over the place is led, the place itself to the goal.

    Each place for which a goal is wished is led to this one, and no place to those that are gone.
    """
    told = [[]] * len(pair.chart)
    for place in pair.frame.order:
        row = []
        for goal, ahead in enumerate(pair.ahead):
            ways = 1 if wished.get(place, goal) == goal and goal not in gone else 0
            for child in pair.frame.under[place]:
                ways = ways * sum([told[child][further] for further in ahead])
            row.append(ways)
        told[place] = row
    return told


def ways_round(trees, ring, other_ring):
    """In how many ways the piece with the ring is led so that the ring goes round the other one."""
    told = 0
    for begin in range(len(other_ring)):
        ways = 1
        for index, place in enumerate(ring):
            ways = ways * trees[place][other_ring[(begin + index) % len(other_ring)]]
        told = told + ways
    return told


def ways_by_rings(pair, trees):
    """For each ring of the chart in how many ways its piece is led."""
    return [
        sum([ways_round(trees, ring, other) for other in pair.other_rings if len(ring) % len(other) == 0])
        for ring in pair.frame.around
    ]


def count_with_wishes(pair, wished, gone=()):
    """How many maps lead each place for which a goal is wished to this one, and none to those that are gone."""
    told = 1
    for ways in ways_by_rings(pair, ways_of_trees(pair, wished, gone)):
        told = told * ways
    return told


def count_begun(pair, wishes, begun):
    """How many maps that fulfil the wishes begin so."""
    wished = dict(wishes)
    for place, goal in enumerate(begun):
        if wished.get(place, goal) != goal:
            return 0
        wished[place] = goal
    return count_with_wishes(pair, wished)


def nth_map(pair, wishes, number):
    """Of the maps that fulfil the wishes the one with this index, or None."""
    return nth_by_ways(len(pair.chart), lambda begun: count_begun(pair, wishes, begun), number)


def map_number(pair, row):
    """The index of this map."""
    return number_by_ways(row, lambda begun: count_begun(pair, (), begun))


def goals_of(pair, place):
    """The lot of the places to which some map leads the place."""
    counts = [count_with_wishes(pair, {place: goal}) for goal in range(len(pair.other_chart))]
    return tuple([goal for goal, count in enumerate(counts) if count > 0])


def grown(pair, trees, row, place, goal):
    """The map begun by the row with the place led to the goal and all that follows from this, or None."""
    told = dict(row)
    while place not in told:
        if trees[place][goal] == 0:
            return None
        told[place] = goal
        place = pair.chart[place]
        goal = pair.other_chart[goal]
    return told if told[place] == goal else None


def all_maps(pair):
    """All maps, ascending."""
    trees = ways_of_trees(pair, {}, ())
    if 0 in ways_by_rings(pair, trees):
        return []
    rows = [{}]
    for place in range(len(pair.chart)):
        further = []
        for row in rows:
            goals = [row[place]] if place in row else list(range(len(pair.other_chart)))
            found = [grown(pair, trees, row, place, goal) for goal in goals]
            further.extend([more for more in found if more is not None])
        rows = further
    return [tuple([row[place] for place in range(len(pair.chart))]) for row in rows]
