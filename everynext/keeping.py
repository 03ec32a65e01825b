"""Rows that keep a chart, and places that are like one another."""

from everynext.checks import check_chart, check_lot, check_number, check_place, check_row, is_row_value
from everynext.codes import (
    code_with_own,
    count_with,
    count_with_own,
    is_row_between,
    next_goals,
    nth_row,
    shares_with,
)
from everynext.errors import NotKeeping
from everynext.rings import Frame


def is_keeping(chart, value):
    """Whether the value is a row that keeps the chart."""
    check_chart(chart)
    return is_row_value(chart, value) and is_row_between(chart, chart, value)


def keep_count(chart):
    """How many rows keep the chart."""
    check_chart(chart)
    return count_with_own(Frame(chart), [])


def keep_shares(chart):
    """What alike pieces, beginnings of rings, and children with one code have to do with the number of such rows."""
    check_chart(chart)
    return shares_with(Frame(chart), [()] * len(chart))


def nth_keeping(chart, number):
    """Of the rows that keep the chart the one with this index, or None."""
    check_chart(chart)
    check_number(number)
    return nth_row(chart, chart, [], number)


def check_keeping(chart, row):
    failing = [place for place in range(len(chart)) if row[chart[place]] != chart[row[place]]]
    if failing:
        raise NotKeeping(failing[0])


def keeping_number(chart, row):
    """The index of the row among those that keep the chart."""
    check_chart(chart)
    check_row(chart, row)
    check_keeping(chart, row)
    frame = Frame(chart)
    told = 0
    for place in range(len(chart)):
        places = list(range(place + 1))
        ahead = [goal for goal in next_goals(frame, frame, places, list(row[:place])) if goal < row[place]]
        told = told + len(ahead) * count_with_own(frame, places)
    return told


def like_lots(chart):
    """The lots of places that are like one another, ascending."""
    check_chart(chart)
    frame = Frame(chart)
    # Places are like one another exactly if the chart has one code, whichever of them is marked in it.
    codes = [code_with_own(frame, [place]) for place in range(len(chart))]
    lots = [tuple([x for x in range(len(chart)) if codes[x] == code]) for code in codes]
    return sorted(set(lots))


def own_lot(chart):
    """The lot of the places that are like no other one."""
    return tuple([lot[0] for lot in like_lots(chart) if len(lot) == 1])


def row_leading(chart, place, other_place):
    """The first row that keeps the chart and leads the one place to the other, or None."""
    check_chart(chart)
    check_place(chart, place)
    check_place(chart, other_place)
    return nth_row(chart, chart, [(place, other_place)], 0)


def stay_count(chart, lot):
    """How many rows that keep the chart leave each place of the lot as it is."""
    check_chart(chart)
    check_lot(chart, lot)
    return count_with_own(Frame(chart), lot)


def moved(chart, row, lot):
    """The lot to which the row leads the places of the lot."""
    check_chart(chart)
    check_row(chart, row)
    check_lot(chart, lot)
    check_keeping(chart, row)
    return tuple(sorted([row[place] for place in lot]))


def lot_count(chart, lot):
    """To how many lots rows that keep the chart lead the lot."""
    check_chart(chart)
    check_lot(chart, lot)
    frame = Frame(chart)
    inside = [(1,) if place in lot else (0,) for place in range(len(chart))]
    return count_with_own(frame, []) // count_with(frame, inside)
