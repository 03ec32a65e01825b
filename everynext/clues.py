"""Charts of which only clues are told, and what is sure of them."""

from everynext.charts import after
from everynext.checks import (
    check_chart,
    check_many,
    check_number,
    check_place_below,
    is_ascending,
    is_integer,
    is_integer_below,
)
from everynext.errors import Clash, InvalidClues, TooMany
from everynext.marked_trees import powered
from everynext.numbering import nth_by_ways
from everynext.open_rows import OPEN, depth_in, halt, opened

MOST_CLUES = 20
MOST_FOR_CLUES = 6


def is_clue(value, many):
    if not isinstance(value, tuple) or len(value) != 3:
        return False
    place, number, goal = value
    if not is_integer_below(place, many) or not is_integer_below(goal, many):
        return False
    return is_integer(number) and number >= 0


def are_clues(value, many):
    if not isinstance(value, tuple) or len(value) > MOST_CLUES:
        return False
    return all([is_clue(clue, many) for clue in value]) and is_ascending(value)


def check_clues(many, clues):
    if not are_clues(clues, many):
        raise InvalidClues("clues are an ascending tuple of at most twenty tuples (place, number of steps, place)")


def check_clue(many, clue):
    if not is_clue(clue, many):
        raise InvalidClues("a clue is a tuple (place, number of steps, place)")


def check_few(many):
    if many > MOST_FOR_CLUES:
        raise TooMany(MOST_FOR_CLUES)


def look_at(row, clues):
    """Whether the row, as far as it is told, meets the clues; (steps left, place, clue) where an open place halts one.

    A clue with None for the place reached only asks that this place is told.
    """
    held = []
    for clue in clues:
        place, number, goal = clue
        reached, left = halt(row, place, number)
        if left > 0:
            held.append((left, reached, clue))
        elif goal is not None and reached != goal:
            return False, []
    return True, held


def rows_meeting(begun, clues):
    """The rows that go on as begun and meet all clues, whatever their open places may lead to.

    Each chart that does so is told by just one of the rows.
    """
    waiting = [(begun, clues)]
    while waiting:
        row, left = waiting.pop()
        met, held = look_at(row, left)
        if met and not held:
            yield row
        elif met:
            # The clue with the fewest steps left says the most about the next place of the place where it halts.
            spot = min([(steps, place) for steps, place, _ in held])[1]
            further = [clue for _, _, clue in held]
            waiting.extend([(row[:spot] + (goal,) + row[spot + 1:], further) for goal in range(len(row))])


def count_of_meeting(begun, clues):
    """How many charts that go on as begun meet the clues."""
    return sum([powered(len(row), row.count(OPEN)) for row in rows_meeting(begun, clues)])


def are_clashing(many, clues):
    begun = opened((), many)
    for _ in rows_meeting(begun, clues):
        return False
    return True


def bar_in(many, clues):
    """The bar that is left of clues that clash as each one goes, in their sequence, that is not needed for it."""
    left = clues
    for clue in clues:
        others = tuple([other for other in left if other != clue])
        if are_clashing(many, others):
            left = others
    return left


def check_no_clash(many, clues):
    if are_clashing(many, clues):
        raise Clash(bar_in(many, clues))


def meets(chart, clues):
    """Whether the chart meets all clues."""
    check_chart(chart)
    check_clues(len(chart), clues)
    return all([after(chart, place, number) == goal for place, number, goal in clues])


def is_bar(many, value):
    """Whether the value is clues that clash, and would not with any one of them left out."""
    check_many(many)
    check_few(many)
    return are_clues(value, many) and are_clashing(many, value) and bar_in(many, value) == value


def clash(many, clues):
    """None if some chart meets all clues, otherwise a bar in them."""
    check_many(many)
    check_clues(many, clues)
    check_few(many)
    return bar_in(many, clues) if are_clashing(many, clues) else None


def meeting_count(many, clues):
    """How many charts of so many places meet the clues."""
    check_many(many)
    check_clues(many, clues)
    check_few(many)
    return count_of_meeting(opened((), many), clues)


def nth_meeting(many, clues, number):
    """Of the charts that meet the clues the one with this index, or None."""
    check_many(many)
    check_clues(many, clues)
    check_number(number)
    check_few(many)
    return nth_by_ways(many, lambda begun: count_of_meeting(opened(begun, many), clues), number)


def goals_after(many, clues, place, number):
    """The lot of the places to which so many steps may lead from the place."""
    begun = opened((), many)
    further = clues + ((place, number, None),)
    found = set()
    for row in rows_meeting(begun, further):
        found.add(halt(row, place, number)[0])
        if len(found) == many:
            break
    return tuple(sorted(found))


def is_sure_by(many, clues, clue):
    """Whether all charts that meet the clues, which do not clash, meet this one, too."""
    begun = opened((), many)
    place, number, goal = clue
    further = clues + ((place, number, None),)
    for row in rows_meeting(begun, further):
        if halt(row, place, number)[0] != goal:
            return False
    return True


def is_sure(many, clues, clue):
    """Whether all charts that meet the clues meet this clue, too."""
    check_many(many)
    check_clues(many, clues)
    check_clue(many, clue)
    check_few(many)
    check_no_clash(many, clues)
    return is_sure_by(many, clues, clue)


def sure_nexts(many, clues):
    """For each place its next place, if this is sure, else None."""
    check_many(many)
    check_clues(many, clues)
    check_few(many)
    check_no_clash(many, clues)
    goals = [goals_after(many, clues, place, 1) for place in range(many)]
    return tuple([lot[0] if len(lot) == 1 else None for lot in goals])


def may_be(many, clues, place, number):
    """The lot of the places to which so many steps from the place may lead."""
    check_many(many)
    check_clues(many, clues)
    check_place_below(place, many)
    check_number(number)
    check_few(many)
    check_no_clash(many, clues)
    return goals_after(many, clues, place, number)


def depths_of(many, clues, place):
    """The depths that the place may have."""
    begun = opened((), many)
    # With as many steps as there are places the whole way of the place is told.
    further = clues + ((place, many, None),)
    return [depth_in(row, place) for row in rows_meeting(begun, further)]


def sure_on_rings(many, clues):
    """The lot of the places that are on a ring for sure."""
    check_many(many)
    check_clues(many, clues)
    check_few(many)
    check_no_clash(many, clues)
    return tuple([place for place in range(many) if max(depths_of(many, clues, place)) == 0])


def may_be_on_rings(many, clues):
    """The lot of the places that may be on a ring."""
    check_many(many)
    check_clues(many, clues)
    check_few(many)
    check_no_clash(many, clues)
    return tuple([place for place in range(many) if min(depths_of(many, clues, place)) == 0])


def depth_bounds(many, clues, place):
    """The least and the greatest depth that the place may have."""
    check_many(many)
    check_clues(many, clues)
    check_place_below(place, many)
    check_few(many)
    check_no_clash(many, clues)
    found = depths_of(many, clues, place)
    return min(found), max(found)


def spare_clues(many, clues):
    """The clues each of which is sure by all the others, ascending."""
    check_many(many)
    check_clues(many, clues)
    check_few(many)
    check_no_clash(many, clues)
    told = []
    for clue in clues:
        others = tuple([other for other in clues if other != clue])
        if is_sure_by(many, others, clue):
            told.append(clue)
    return told


def tells_all(many, clues):
    """Whether just one chart meets the clues."""
    check_many(many)
    check_clues(many, clues)
    check_few(many)
    check_no_clash(many, clues)
    return count_of_meeting(opened((), many), clues) == 1
