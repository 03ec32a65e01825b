"""Roots of a chart: charts of which it is the second, third, .. step."""

from math import gcd, perm

from everynext.charts import step
from everynext.checks import (
    MOST_PLACES,
    MOST_STEPS,
    check_chart,
    check_chart_as_long,
    check_few_places,
    check_number,
    check_power,
    check_within,
    is_chart_value,
)
from everynext.errors import NoRoot, Refused
from everynext.open_rows import OPEN, halt
from everynext.rings import height, on_rings, period, rings

MOST_FOR_ALL = 7
MOST_FOR_FIRST = 8


def is_root_of(chart, power, root):
    return step(root, power) == chart


def is_root(chart, power, value):
    """Whether the value is a chart whose step with the number power is the chart."""
    check_chart(chart)
    check_power(power)
    return is_chart_value(value) and is_root_of(chart, power, value)


def agrees(chart, power, row, place):
    """Whether the place comes to its next place in the chart, as far as the row is told."""
    reached, left = halt(row, place, power)
    return left > 0 or reached == chart[place]


def grown(chart, row, place, goal):
    """The row with the place led to the goal and all that follows, as a root goes along with its chart, or None."""
    told = list(row)
    while told[place] == OPEN:
        told[place] = goal
        place = chart[place]
        goal = chart[goal]
    return told if told[place] == goal else None


def may_be_root(chart, power, row):
    return all([agrees(chart, power, row, place) for place in range(len(chart))])


def add_roots(chart, power, row, most, found):
    """Adds to what is found, ascending, the roots that the row can become, until there are as many as most tells."""
    if OPEN not in row:
        found.append(tuple(row))
        return
    place = row.index(OPEN)
    for goal in range(len(chart)):
        if len(found) == most:
            return
        further = grown(chart, row, place, goal)
        if further is not None and may_be_root(chart, power, further):
            add_roots(chart, power, further, most, found)


def has_room(chart, power):
    """Whether there are as many places as the height of a root asks for at the least."""
    return power * (height(chart) - 1) + 1 + len(on_rings(chart)) <= len(chart)


def first_roots(chart, power, most):
    """The first roots, at most as many as most tells, all of them if it is None."""
    found = []
    if has_room(chart, power) and not lengths_without_heaps(chart, power):
        add_roots(chart, power, [OPEN] * len(chart), most, found)
    return found


def root_count(chart, power):
    """How many roots there are."""
    check_chart(chart)
    check_power(power)
    if height(chart) == 0:
        return count_on_rings(chart, power)
    check_few_places(chart, MOST_FOR_ALL)
    return len(first_roots(chart, power, None))


def nth_root(chart, power, number):
    """The root with this index, or None."""
    check_chart(chart)
    check_power(power)
    check_number(number)
    check_few_places(chart, MOST_FOR_ALL)
    found = first_roots(chart, power, number + 1)
    return found[number] if number < len(found) else None


def root_number(chart, power, other_chart):
    """The index of this root."""
    check_chart(chart)
    check_power(power)
    check_chart_as_long(chart, other_chart)
    if not is_root_of(chart, power, other_chart):
        raise Refused("the other chart is no such root of the chart")
    check_few_places(chart, MOST_FOR_ALL)
    return first_roots(chart, power, None).index(other_chart)


def first_root(chart, power):
    """The first root."""
    check_chart(chart)
    check_power(power)
    check_few_places(chart, MOST_FOR_FIRST)
    found = first_roots(chart, power, 1)
    if not found:
        raise NoRoot(min(lengths_without_heaps(chart, power), default=0))
    return found[0]


def rooted(chart, steps):
    """The numbers from 1 to steps for which the chart has a root."""
    check_chart(chart)
    check_within(steps, 1, MOST_STEPS)
    check_few_places(chart, MOST_FOR_ALL)
    return [power for power in range(1, steps + 1) if first_roots(chart, power, 1)]


def fits(number, length, power):
    return gcd(number * length, power) == number


def fitting(length, power):
    """The numbers of rings of this length that one ring of a root can become."""
    check_within(length, 1, MOST_PLACES)
    check_power(power)
    return [number for number in range(1, MOST_PLACES + 1) if fits(number, length, power)]


def heap_ways(count, length, power):
    """In how many ways so many rings of this length are made by rings of a root."""
    told = [1]
    for many in range(1, count + 1):
        total = 0
        # One ring of the root becomes the next of these rings and so many others, in any sequence and turn.
        turns = 1
        for others in range(many):
            if fits(others + 1, length, power):
                total = total + perm(many - 1, others) * turns * told[many - 1 - others]
            turns = turns * length
        told.append(total)
    return told[count]


def ways_by_lengths(chart, power):
    """For each length of rings of the chart, ascending, (length, ways to make these rings)."""
    lengths = [len(ring) for ring in rings(chart)]
    return [(length, heap_ways(lengths.count(length), length, power)) for length in sorted(set(lengths))]


def lengths_without_heaps(chart, power):
    return [length for length, ways in ways_by_lengths(chart, power) if ways == 0]


def count_on_rings(chart, power):
    told = 1
    for _, ways in ways_by_lengths(chart, power):
        told = told * ways
    return told


def barred_lengths(chart, power):
    """The lengths of rings of the chart of which there are so many that no root can make them."""
    check_chart(chart)
    check_power(power)
    return lengths_without_heaps(chart, power)


def ring_root_count(chart, power):
    """How many roots the chart of the ring places alone has."""
    check_chart(chart)
    check_power(power)
    return count_on_rings(chart, power)


def step_root(chart, power):
    """The least number such that this step of the chart is a root of it, or None."""
    check_chart(chart)
    check_power(power)
    for number in range(height(chart) + period(chart)):
        if is_root_of(chart, power, step(chart, number)):
            return number
    return None
