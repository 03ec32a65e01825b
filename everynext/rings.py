"""Rings, depths and pieces of charts."""

from math import lcm

from everynext.charts import after, image, leading, step, way
from everynext.checks import check_chart, check_number, check_place


def rings(chart):
    """The rings, each begun with its least place, ascending."""
    check_chart(chart)
    return sorted(set([ring_of(chart, place) for place in range(len(chart))]))


def ring_of(chart, place):
    """The ring to which the place comes."""
    check_chart(chart)
    check_place(chart, place)
    # With as many steps as there are places, each place has come to a ring.
    around = way(chart, after(chart, place, len(chart)))
    return way(chart, min(around))


def on_rings(chart):
    """The lot of the places on rings."""
    check_chart(chart)
    return image(step(chart, len(chart)))


def depth(chart, place):
    """The least number of steps with which the place comes to a ring."""
    check_chart(chart)
    check_place(chart, place)
    return way(chart, place).index(entry(chart, place))


def depths(chart):
    """The depths of all places."""
    check_chart(chart)
    return tuple([depth(chart, place) for place in range(len(chart))])


def height(chart):
    """The greatest depth of a place."""
    return max(depths(chart))


def period(chart):
    """The least common multiple of the lengths of the rings."""
    told = 1
    for ring in rings(chart):
        told = lcm(told, len(ring))
    return told


def entry(chart, place):
    """The first place on a ring in the way of the place."""
    check_chart(chart)
    check_place(chart, place)
    ringed = on_rings(chart)
    return [passed for passed in way(chart, place) if passed in ringed][0]


def pieces(chart):
    """The lots of the places that come to one ring, ascending."""
    check_chart(chart)
    lots = {}
    for place in range(len(chart)):
        lots.setdefault(ring_of(chart, place), []).append(place)
    return sorted([tuple(lot) for lot in lots.values()])


def children(chart, place):
    """The lot of the places that lead to the place and are on no ring."""
    check_chart(chart)
    check_place(chart, place)
    ringed = on_rings(chart)
    return tuple([x for x in leading(chart, place) if x not in ringed])


def tree_over(chart, place):
    """The lot of the places that come to the place without a step from a place on a ring."""
    check_chart(chart)
    check_place(chart, place)
    return tuple([x for x in range(len(chart)) if place in way(chart, x)[:depth(chart, x) + 1]])


def first_repeat(chart, number):
    """The least greater number of steps that lead all places where this number does, or None."""
    check_chart(chart)
    check_number(number)
    if number < height(chart):
        return None
    return number + period(chart)


class Frame:
    """The rings of a chart, the children of each place, and the places, the deepest ones first."""

    def __init__(self, chart):
        deep = depths(chart)
        self.around = rings(chart)
        self.under = [children(chart, place) for place in range(len(chart))]
        self.order = [place for _, place in sorted([(-deep[place], place) for place in range(len(chart))])]
