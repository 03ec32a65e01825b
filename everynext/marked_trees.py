"""Trees with two marks, which are told one to one by charts; leaf rows of trees; forests."""

from everynext.checks import (
    MOST_PLACES,
    check_chart,
    check_many,
    check_number,
    check_place_below,
    is_ascending,
    is_lot_below,
    is_pair_below,
    is_tuple_below,
)
from everynext.errors import InvalidLot, InvalidRow, InvalidTree, NotForest
from everynext.rings import on_rings, rings


def toward(tree, goal):
    """For each place from which one comes to the goal along the ties the next place on the way there."""
    told = {goal: goal}
    waiting = [goal]
    while waiting:
        place = waiting.pop()
        for x, y in tree:
            near = y if x == place else x
            if place in (x, y) and near not in told:
                told[near] = place
                waiting.append(near)
    return told


def is_tree(value):
    """Whether the value is a tree."""
    if not isinstance(value, tuple) or len(value) >= MOST_PLACES:
        return False
    count = len(value) + 1
    if not all([is_pair_below(tie, count, count) and tie[0] < tie[1] for tie in value]):
        return False
    return is_ascending(value) and len(toward(value, 0)) == count


def check_tree(tree):
    if not is_tree(tree):
        raise InvalidTree("a tree is an ascending tuple of ties (x, y), x less than y, that tie all places together")


def place_count(tree):
    return len(tree) + 1


def check_places_of_tree(tree, place, other_place):
    check_place_below(place, place_count(tree))
    check_place_below(other_place, place_count(tree))


def way_between(tree, place, other_place):
    ahead = toward(tree, other_place)
    told = [place]
    while told[-1] != other_place:
        told.append(ahead[told[-1]])
    return tuple(told)


def tree_way(tree, place, other_place):
    """The places on the shortest way from the one place to the other, both among them."""
    check_tree(tree)
    check_places_of_tree(tree, place, other_place)
    return way_between(tree, place, other_place)


def chart_by_marks(tree, place, other_place):
    """The chart of the tree with the two marks."""
    check_tree(tree)
    check_places_of_tree(tree, place, other_place)
    ahead = toward(tree, place)
    told = [ahead[x] for x in range(place_count(tree))]
    marked_way = way_between(tree, place, other_place)
    for x, y in zip(sorted(marked_way), marked_way):
        told[x] = y
    return tuple(told)


def tie_of(place, other_place):
    return min(place, other_place), max(place, other_place)


def marked_tree(chart):
    """The tree and its two marks whose chart it is."""
    check_chart(chart)
    ringed = on_rings(chart)
    marked_way = [chart[place] for place in ringed]
    ties = [tie_of(x, y) for x, y in zip(marked_way, marked_way[1:])]
    ties.extend([tie_of(place, chart[place]) for place in range(len(chart)) if place not in ringed])
    return tuple(sorted(ties)), marked_way[0], marked_way[-1]


def row_of_leaves(tree):
    ties = list(tree)
    told = []
    while len(ties) > 1:
        ends = [place for tie in ties for place in tie]
        leaf = min([place for place in ends if ends.count(place) == 1])
        x, y = [tie for tie in ties if leaf in tie][0]
        told.append(y if x == leaf else x)
        ties.remove((x, y))
    return tuple(told)


def leaf_row(tree):
    """The places told as the least leaf goes again and again, until two places are left."""
    check_tree(tree)
    return row_of_leaves(tree)


def leaving(left, told_row):
    """For each entry of the row the least place of those left that the row does not name from there on; it goes."""
    staying = list(left)
    told = []
    for index in range(len(told_row)):
        leaf = min([place for place in staying if place not in told_row[index:]])
        told.append(leaf)
        staying.remove(leaf)
    return told


def tree_told(many, told_row):
    leaves = leaving(list(range(many)), told_row)
    ties = [tie_of(leaf, near) for leaf, near in zip(leaves, told_row)]
    if many > 1:
        ties.append(tuple([place for place in range(many) if place not in leaves]))
    return tuple(sorted(ties))


def tree_by(many, told_row):
    """The tree of so many places with this leaf row."""
    check_many(many)
    if not is_tuple_below(told_row, many) or len(told_row) != max(many - 2, 0):
        raise InvalidRow("a leaf row has as many places as the tree, less two")
    return tree_told(many, told_row)


def powered(base, times):
    told = 1
    for _ in range(times):
        told = told * base
    return told


def count_of_trees(many):
    return powered(many, max(many - 2, 0))


def tree_count(many):
    """How many trees of so many places there are."""
    check_many(many)
    return count_of_trees(many)


def tree_number(tree):
    """The number of the tree: its leaf row, read as digits."""
    check_tree(tree)
    told = 0
    for place in row_of_leaves(tree):
        told = told * place_count(tree) + place
    return told


def nth_tree(many, number):
    """The tree of so many places with this number, or None."""
    check_many(many)
    check_number(number)
    if number >= count_of_trees(many):
        return None
    digits = []
    left = number
    for _ in range(many - 2):
        digits.append(left % many)
        left = left // many
    return tree_told(many, tuple(digits[::-1]))


def longer_rings(chart):
    return [ring for ring in rings(chart) if len(ring) > 1]


def is_forest(chart):
    """Whether all rings of the chart have one place."""
    check_chart(chart)
    return longer_rings(chart) == []


def forest_of(chart):
    """The chart in which each place on a ring is its own next place."""
    check_chart(chart)
    ringed = on_rings(chart)
    return tuple([place if place in ringed else chart[place] for place in range(len(chart))])


def forest_row(chart):
    """The places told as the least place to which none leads goes again and again, until just the roots are left."""
    check_chart(chart)
    longer = longer_rings(chart)
    if longer:
        raise NotForest(longer[0])
    left = [place for place in range(len(chart)) if chart[place] != place]
    told = []
    while left:
        led_to = [chart[place] for place in left]
        leaf = min([place for place in left if place not in led_to])
        told.append(chart[leaf])
        left.remove(leaf)
    return tuple(told)


def check_roots(many, lot):
    if not is_lot_below(lot, many) or lot == ():
        raise InvalidLot("the roots are a lot of one place or more")


def forest_by(many, lot, told_row):
    """The forest of so many places with just these roots and this forest row."""
    check_many(many)
    check_roots(many, lot)
    others = [place for place in range(many) if place not in lot]
    if not is_tuple_below(told_row, many) or len(told_row) != len(others):
        raise InvalidRow("a forest row has as many places as are no roots")
    if told_row != () and told_row[-1] not in lot:
        raise InvalidRow("a forest row ends with a root")
    told = list(range(many))
    for leaf, ahead in zip(leaving(others, told_row), told_row):
        told[leaf] = ahead
    return tuple(told)


def forest_count(many, lot):
    """How many forests of so many places have just these roots."""
    check_many(many)
    check_roots(many, lot)
    if len(lot) == many:
        return 1
    return len(lot) * powered(many, many - len(lot) - 1)
