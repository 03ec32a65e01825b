"""Likenesses that next places keep, told by the parts in which like places are together."""

from itertools import combinations

from everynext.charts import step
from everynext.checks import (
    check_chart,
    check_few_places,
    check_lot,
    check_lots,
    check_parts,
    check_place,
    is_parts_below,
)
from everynext.errors import InvalidLot, InvalidParts, NotKept

MOST_FOR_ALL = 7


def labels_of(parts, count):
    """For each of so many places the index of the part that has it."""
    told = [0] * count
    for index, part in enumerate(parts):
        for place in part:
            told[place] = index
    return told


def parts_by(labels):
    """The parts by which places are together that have equal labels."""
    lots = {}
    for place, label in enumerate(labels):
        lots.setdefault(label, []).append(place)
    return tuple(sorted([tuple(lot) for lot in lots.values()]))


def is_parts(chart, value):
    """Whether the value is parts of the chart."""
    check_chart(chart)
    return is_parts_below(value, len(chart))


def first_failing(chart, parts):
    """The least place whose next place is not together with that of the least place of its part, or None."""
    labels = labels_of(parts, len(chart))
    failing = [place for place in range(len(chart)) if labels[chart[place]] != labels[chart[parts[labels[place]][0]]]]
    return failing[0] if failing else None


def check_kept_parts(chart, parts):
    failing = first_failing(chart, parts)
    if failing is not None:
        raise NotKept(failing)


def are_kept(chart, parts):
    """Whether the parts are kept."""
    check_chart(chart)
    check_parts(chart, parts)
    return first_failing(chart, parts) is None


def finest_around(chart, lots):
    """The finest kept parts by which the places of each lot are together."""
    labels = list(range(len(chart)))
    waiting = [(lot[0], place) for lot in lots for place in lot[1:]]
    while waiting:
        place, other_place = waiting.pop()
        label, other_label = labels[place], labels[other_place]
        if label != other_label:
            labels = [other_label if held == label else held for held in labels]
            waiting.append((chart[place], chart[other_place]))
    return parts_by(labels)


def least_together(chart, lots):
    """The finest kept parts by which the places of each of the lots are together."""
    check_chart(chart)
    check_lots(chart, lots)
    return finest_around(chart, lots)


def greatest_within(chart, parts):
    """The coarsest kept parts that are finer than the parts."""
    check_chart(chart)
    check_parts(chart, parts)
    told = ()
    finer = parts
    while finer != told:
        told = finer
        labels = labels_of(told, len(chart))
        finer = parts_by([(labels[place], labels[chart[place]]) for place in range(len(chart))])
    return told


def steps_apart(chart, parts, place, other_place):
    """The least number of steps with which the two come to places that are not together, or None."""
    check_chart(chart)
    check_parts(chart, parts)
    check_place(chart, place)
    check_place(chart, other_place)
    labels = labels_of(parts, len(chart))
    here, there = place, other_place
    # Places that are together for so many steps stay together.
    for number in range(len(chart)):
        if labels[here] != labels[there]:
            return number
        here, there = chart[here], chart[there]
    return None


def joined_parts(chart, parts, other_parts):
    """The finest kept parts that are coarser than both."""
    check_chart(chart)
    check_parts(chart, parts)
    check_parts(chart, other_parts)
    return finest_around(chart, parts + other_parts)


def met_parts(chart, parts, other_parts):
    """The coarsest parts that are finer than both."""
    check_chart(chart)
    check_parts(chart, parts)
    check_parts(chart, other_parts)
    return parts_by(list(zip(labels_of(parts, len(chart)), labels_of(other_parts, len(chart)))))


def together_after(chart, number):
    """The parts by which places are together that come to one place with so many steps."""
    return parts_by(step(chart, number))


def drawn_together(chart, lot):
    """The parts of which the lot is one, and each other place is one alone."""
    check_chart(chart)
    check_lot(chart, lot)
    if lot == ():
        raise InvalidLot("no part is empty")
    return tuple(sorted([lot] + [(place,) for place in range(len(chart)) if place not in lot]))


def chart_between(chart, parts):
    labels = labels_of(parts, len(chart))
    return tuple([labels[chart[part[0]]] for part in parts])


def chart_of(chart, parts):
    """The chart whose places are the indexes of the parts."""
    check_chart(chart)
    check_parts(chart, parts)
    check_kept_parts(chart, parts)
    return chart_between(chart, parts)


def parts_of_parts(parts, upper, count):
    outer = labels_of(upper, len(parts))
    return parts_by([outer[label] for label in labels_of(parts, count)])


def lifted_parts(chart, parts, upper):
    """The parts by which places are together if the parts that have them are together by the upper ones."""
    check_chart(chart)
    check_parts(chart, parts)
    if not is_parts_below(upper, len(parts)):
        raise InvalidParts("the upper parts must have just the indexes of the parts")
    check_kept_parts(chart, parts)
    return parts_of_parts(parts, upper, len(chart))


def are_finer(parts, others, count):
    outer = labels_of(others, count)
    return all([outer[place] == outer[part[0]] for part in parts for place in part])


def parts_above(chart, parts):
    """The kept parts that are coarser than the parts, with none between, ascending."""
    check_chart(chart)
    check_parts(chart, parts)
    check_kept_parts(chart, parts)
    # These are found as parts of the parts; the least ones draw some two of the parts together.
    inner = chart_between(chart, parts)
    many = len(parts)
    found = sorted(set([finest_around(inner, (pair,)) for pair in combinations(range(many), 2)]))
    least = [
        upper for upper in found if not any([other != upper and are_finer(other, upper, many) for other in found])
    ]
    return sorted([parts_of_parts(parts, upper, len(chart)) for upper in least])


def all_kept_parts(chart):
    rows = [()]
    for _ in range(len(chart)):
        rows = [row + (label,) for row in rows for label in range(max(row, default=-1) + 2)]
    found = [parts_by(row) for row in rows]
    return sorted([parts for parts in found if first_failing(chart, parts) is None])


def kept_parts(chart):
    """All kept parts, ascending."""
    check_chart(chart)
    check_few_places(chart, MOST_FOR_ALL)
    return all_kept_parts(chart)


def kept_parts_count(chart):
    """How many kept parts there are."""
    return len(kept_parts(chart))
