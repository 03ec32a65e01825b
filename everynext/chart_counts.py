"""How many charts of so many places there are of one kind and another, and the one with an index among them."""

from math import comb, factorial, lcm, perm

from everynext.charts import image
from everynext.checks import check_chart, check_count, check_lengths, check_many, check_number
from everynext.codes import ways_to_order
from everynext.marked_trees import forest_count, powered
from everynext.numbering import nth_by_ways, number_by_ways
from everynext.open_rows import depth_in, halt, opened
from everynext.rings import on_rings


def trees_at(many, count):
    """In how many ways the other places come to so many that are on rings."""
    return forest_count(many, tuple(range(count)))


def ring_place_counts(many):
    """For each number of places on rings how many charts have so many."""
    check_many(many)
    return [0] + [perm(many, count) * trees_at(many, count) for count in range(1, many + 1)]


def ways_to_reach(many, left, reached, count):
    """In how many ways so many places that are left lead on, so many being reached, that count are reached at last."""
    if left == 0:
        return 1 if reached == count else 0
    again = reached * ways_to_reach(many, left - 1, reached, count)
    return again + (many - reached) * ways_to_reach(many, left - 1, reached + 1, count)


def reached_counts(many):
    """For each number of places to which some place leads how many charts have so many."""
    check_many(many)
    return [ways_to_reach(many, many, 0, count) for count in range(many + 1)]


def lengths_of_sum(total, least):
    """All tuples of lengths with this sum, none less than the one ahead of it, the first one at the least so long."""
    if total == 0:
        return [()]
    return [
        (length,) + further for length in range(least, total + 1) for further in lengths_of_sum(total - length, length)
    ]


def all_lengths(many):
    """All tuples of lengths that the rings of a chart of so many places may have."""
    return [lengths for total in range(1, many + 1) for lengths in lengths_of_sum(total, 1)]


def charts_with_rings(many, lengths):
    """How many charts have rings of just these lengths."""
    alike = ways_to_order(lengths)
    for length in lengths:
        alike = alike * length
    return perm(many, sum(lengths)) // alike * trees_at(many, sum(lengths))


def piece_counts(many):
    """For each number of pieces how many charts have so many."""
    check_many(many)
    told = [0] * (many + 1)
    for lengths in all_lengths(many):
        told[len(lengths)] = told[len(lengths)] + charts_with_rings(many, lengths)
    return told


def layers(under, left, most):
    """In how many ways all places that are left hang over so many places, in so many layers at the most."""
    if left == 0:
        return 1
    if most == 0:
        return 0
    return sum([
        comb(left, size) * powered(under, size) * layers(size, left - size, most - 1) for size in range(1, left + 1)
    ])


def charts_not_higher(many, most):
    return sum([perm(many, count) * layers(count, many - count, most) for count in range(1, many + 1)])


def height_counts(many):
    """For each height how many charts have it."""
    check_many(many)
    counts = [charts_not_higher(many, most) for most in range(many)]
    return [count - lower for count, lower in zip(counts, [0] + counts)]


def period_counts(many):
    """For each period that some chart has (period, how many have it), ascending."""
    check_many(many)
    told = {}
    for lengths in all_lengths(many):
        shared = 1
        for length in lengths:
            shared = lcm(shared, length)
        told[shared] = told.get(shared, 0) + charts_with_rings(many, lengths)
    return sorted(told.items())


def ring_length_count(many, lengths):
    """How many charts have just so many rings as lengths, and of just these lengths."""
    check_many(many)
    check_lengths(lengths)
    if sum(lengths) > many:
        return 0
    return charts_with_rings(many, lengths)


def depth_totals(many):
    """For each depth how many places of all charts together have it."""
    check_many(many)
    # The way of such a place has as many places as its depth and the length of its ring; the others lead anywhere.
    return [
        sum([perm(many, passed) * powered(many, many - passed) for passed in range(depth + 1, many + 1)])
        for depth in range(many)
    ]


def rows_returning(size, steps):
    """How many rows of so many places lead each place back to itself with so many steps."""
    told = [1]
    for many in range(1, size + 1):
        told.append(sum([
            perm(many - 1, length - 1) * told[many - length] for length in range(1, many + 1) if steps % length == 0
        ]))
    return told[size]


def returning_count(many, number, count):
    """Of how many charts the step with the number + count is the one with the number."""
    check_many(many)
    check_number(number)
    check_count(count)
    most = min(number, many)
    return sum([
        comb(many, size) * rows_returning(size, count) * layers(size, many - size, most)
        for size in range(1, many + 1)
    ])


def depths_over(row):
    """How many places come to no open place, those of them on rings, and over each open place the depths."""
    over = {}
    closed = 0
    ringed = 0
    for place in range(len(row)):
        reached, left = halt(row, place, len(row))
        if left > 0:
            over.setdefault(reached, []).append(len(row) - left)
        else:
            closed = closed + 1
            ringed = ringed + (1 if depth_in(row, place) == 0 else 0)
    return closed, ringed, list(over.values())


def with_rings_through(states, depths):
    """The states with those added in which a ring goes through the open place, from one of the places over it."""
    told = {state: states[state] for state in states}
    for held, reached, ringed in states:
        for depth in depths:
            state = (held + 1, reached + len(depths), ringed + depth + 1)
            told[state] = told.get(state, 0) + states[(held, reached, ringed)]
    return told


def ways_to_attach(many, reached, left):
    """In how many ways so many trees hang at last all over the places reached, none of these trees being among them."""
    return 1 if left == 0 else reached * powered(many, left - 1)


def ways_to_ring(many, begun, count):
    """How many charts that begin so have so many places on rings."""
    closed, ringed, over = depths_over(opened(begun, many))
    # (open places on rings, places reached from rings, places on rings): ways to choose them.
    states = {(0, closed, ringed): 1}
    for depths in over:
        states = with_rings_through(states, depths)
    return sum([
        states[state] * factorial(state[0]) * ways_to_attach(many, state[1], len(over) - state[0])
        for state in states if state[2] == count
    ])


def nth_by_ring_places(many, count, number):
    """Of the charts with so many places on rings the one with this index, or None."""
    check_many(many)
    check_count(count)
    check_number(number)
    return nth_by_ways(many, lambda begun: ways_to_ring(many, begun, count), number)


def ring_places_rank(chart):
    """The index of the chart among those with as many places on rings."""
    check_chart(chart)
    count = len(on_rings(chart))
    return number_by_ways(chart, lambda begun: ways_to_ring(len(chart), begun, count))


def ways_to_reach_on(many, begun, count):
    """How many charts that begin so have so many places to which some place leads."""
    return ways_to_reach(many, many - len(begun), len(set(begun)), count)


def nth_by_reached(many, count, number):
    """Of the charts with so many places to which some place leads the one with this index, or None."""
    check_many(many)
    check_count(count)
    check_number(number)
    return nth_by_ways(many, lambda begun: ways_to_reach_on(many, begun, count), number)


def reached_rank(chart):
    """The index of the chart among those with as many places to which some place leads."""
    check_chart(chart)
    count = len(image(chart))
    return number_by_ways(chart, lambda begun: ways_to_reach_on(len(chart), begun, count))
