"""Lots of places that are kept: they have the next place of each of their places."""

from itertools import combinations

from everynext.charts import way
from everynext.checks import check_chart, check_lot, check_number
from everynext.errors import NotKept
from everynext.rings import on_rings, ring_of, rings


def has_its_next_places(chart, lot):
    return all([chart[place] in lot for place in lot])


def is_kept(chart, lot):
    """Whether the lot is kept."""
    check_chart(chart)
    check_lot(chart, lot)
    return has_its_next_places(chart, lot)


def kept_over(chart, lot):
    """The least kept lot that contains the lot."""
    check_chart(chart)
    check_lot(chart, lot)
    return tuple(sorted(set([passed for place in lot for passed in way(chart, place)])))


def kept_within(chart, lot):
    """The greatest kept lot that is contained in the lot."""
    check_chart(chart)
    check_lot(chart, lot)
    return tuple([place for place in lot if all([passed in lot for passed in way(chart, place)])])


def coming_to(chart, lot):
    """The lot of all places that come to a place of the lot, itself counted."""
    check_chart(chart)
    check_lot(chart, lot)
    return tuple([place for place in range(len(chart)) if any([passed in lot for passed in way(chart, place)])])


def all_kept(chart):
    """All kept lots, in lot order."""
    return [
        lot
        for size in range(len(chart) + 1)
        for lot in combinations(range(len(chart)), size)
        if has_its_next_places(chart, lot)
    ]


def kept_counts(chart):
    """For each number of places how many kept lots of so many places there are."""
    check_chart(chart)
    sizes = [len(lot) for lot in all_kept(chart)]
    return [sizes.count(size) for size in range(len(chart) + 1)]


def nth_kept(chart, number):
    """The kept lot with this index in lot order, or None."""
    check_chart(chart)
    check_number(number)
    found = all_kept(chart)
    return found[number] if number < len(found) else None


def check_kept_lot(chart, lot):
    failing = [place for place in lot if chart[place] not in lot]
    if failing:
        raise NotKept(failing[0])


def kept_number(chart, lot):
    """The index of the kept lot in lot order."""
    check_chart(chart)
    check_lot(chart, lot)
    check_kept_lot(chart, lot)
    return all_kept(chart).index(lot)


def told_by(chart, lot):
    """The first lot in lot order of those whose least kept lot around them is this one."""
    check_chart(chart)
    check_lot(chart, lot)
    check_kept_lot(chart, lot)
    led_to = [chart[place] for place in lot]
    told = [place for place in lot if place not in led_to]
    for ring in rings(chart):
        # A ring to which other places of the lot come is told by these.
        if tuple(sorted(ring)) == tuple([place for place in lot if ring_of(chart, place) == ring]):
            told.append(ring[0])
    return tuple(sorted(told))


def units(chart):
    """What one kept lot has more than one that it is right above: one place that is on no ring, or a whole ring."""
    ringed = on_rings(chart)
    return rings(chart) + [(place,) for place in range(len(chart)) if place not in ringed]


def lot_order(lot):
    return len(lot), lot


def lots_above(chart, parted, lot):
    """The kept lots right above the kept lot, the units of the chart being parted."""
    found = [tuple(sorted(lot + unit)) for unit in parted if unit[0] not in lot]
    return sorted([more for more in found if has_its_next_places(chart, more)], key=lot_order)


def kept_above(chart, lot):
    """The kept lots right above the lot, in lot order."""
    check_chart(chart)
    check_lot(chart, lot)
    check_kept_lot(chart, lot)
    return lots_above(chart, units(chart), lot)


def kept_below(chart, lot):
    """The kept lots that the lot is right above, in lot order."""
    check_chart(chart)
    check_lot(chart, lot)
    check_kept_lot(chart, lot)
    found = [tuple([place for place in lot if place not in unit]) for unit in units(chart) if unit[0] in lot]
    return sorted([less for less in found if has_its_next_places(chart, less)], key=lot_order)


def kept_rows(chart, lot, other_lot):
    """How many rows of kept lots lead from the one to the other, each right above the one ahead of it."""
    check_chart(chart)
    check_lot(chart, lot)
    check_lot(chart, other_lot)
    check_kept_lot(chart, lot)
    check_kept_lot(chart, other_lot)
    parted = units(chart)
    ways = {lot: 1}
    # In lot order each lot comes behind all those that it is above.
    for kept in all_kept(chart):
        if kept in ways:
            for above in lots_above(chart, parted, kept):
                ways[above] = ways.get(above, 0) + ways[kept]
    return ways.get(other_lot, 0)
