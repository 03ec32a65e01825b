"""Codes by which charts that are alike but for the names of their places are told, and the kinds of charts."""

from itertools import permutations
from math import factorial

from everynext.checks import (
    MOST_PLACES,
    check_chart,
    check_few_places,
    check_number,
    check_place,
    check_within,
    is_row_value,
)
from everynext.errors import InvalidCode, NotAlike, TooMany
from everynext.rings import Frame, ring_of

MOST_FOR_LEAST = 7
MOST_FOR_KINDS = 6


def least_turn(codes):
    return min([codes[begin:] + codes[:begin] for begin in range(len(codes))])


def codes_of_places(frame, marks):
    """For each place its tree code, in which each place has its mark, a tuple, ahead of its children."""
    told = [()] * len(frame.under)
    for place in frame.order:
        told[place] = marks[place] + tuple(sorted([told[child] for child in frame.under[place]]))
    return told


def codes_of_pieces(frame, codes):
    return sorted([least_turn(tuple([codes[place] for place in ring])) for ring in frame.around])


def plain_codes(frame):
    return codes_of_places(frame, [()] * len(frame.under))


def tree_code(chart, place):
    """The tree codes of the children of the place, in the sequence of tuples."""
    check_chart(chart)
    check_place(chart, place)
    return plain_codes(Frame(chart))[place]


def piece_code(chart, place):
    """The least tuple of the tree codes round the ring of the piece that has the place."""
    check_chart(chart)
    check_place(chart, place)
    codes = plain_codes(Frame(chart))
    return least_turn(tuple([codes[ringed] for ringed in ring_of(chart, place)]))


def chart_code(chart):
    """The codes of all pieces, in the sequence of tuples."""
    check_chart(chart)
    frame = Frame(chart)
    return tuple(codes_of_pieces(frame, plain_codes(frame)))


def is_nest(value, most):
    """Whether the value is a tuple of nothing but tuples, and they of tuples, and so on, at most so many in all."""
    waiting = [value]
    met = 0
    while waiting:
        held = waiting.pop()
        met = met + 1
        if met > most or not isinstance(held, tuple):
            return False
        waiting.extend(held)
    return True


def chart_by_nest(nest):
    """The chart that is numbered as chart_by_code tells, also of a nest whose parts stand out of sequence."""
    told = []
    for piece in nest:
        begin = len(told)
        told.extend([begin + index + 1 for index in range(len(piece))])
        told[-1] = begin
        trees = list(piece)
        done = 0
        while done < len(trees):
            under = trees[done]
            trees.extend(under)
            told.extend([begin + done] * len(under))
            done = done + 1
    return tuple(told)


def is_code(value):
    """Whether the value is the chart code of some chart."""
    # Ten places and at most ten pieces of them are at most so many tuples, the code itself counted.
    if not is_nest(value, 2 * MOST_PLACES + 1) or () in value or value == ():
        return False
    chart = chart_by_nest(value)
    return len(chart) <= MOST_PLACES and chart_code(chart) == value


def chart_by_code(code):
    """The chart with this code whose places are numbered in the sequence of the code."""
    if not is_code(code):
        raise InvalidCode("no chart has such a code")
    return chart_by_nest(code)


def renamed_by(chart, row):
    told = [0] * len(chart)
    for place in range(len(chart)):
        told[row[place]] = row[chart[place]]
    return tuple(told)


def least_alike(chart):
    """The first of all charts that are alike with the chart."""
    check_chart(chart)
    check_few_places(chart, MOST_FOR_LEAST)
    return min([renamed_by(chart, row) for row in permutations(range(len(chart)))])


def are_alike(chart, other_chart):
    """Whether the one is the other with other names for its places."""
    check_chart(chart)
    check_chart(other_chart)
    return chart_code(chart) == chart_code(other_chart)


def check_alike(chart, other_chart):
    code = chart_code(chart)
    other_code = chart_code(other_chart)
    if code != other_code:
        raise NotAlike(min([
            piece for piece in code + other_code if code.count(piece) != other_code.count(piece)
        ]))


def marks_of(count, places):
    """Marks of which each of the places has one of its own, and all others have the same one."""
    marks = [(0,)] * count
    for index, place in enumerate(places):
        marks[place] = (index + 1,)
    return marks


def code_with_own(frame, places):
    """The codes of the pieces, with marks by which each of the places is told from all others."""
    return codes_of_pieces(frame, codes_of_places(frame, marks_of(len(frame.under), places)))


def ways_to_order(codes):
    """The product, over the unlike codes, of the numbers of ways to put the equal ones in a sequence."""
    told = 1
    for index, code in enumerate(codes):
        told = told * codes[:index + 1].count(code)
    return told


def shares_with(frame, marks):
    """The numbers of ways to exchange equal pieces, to turn rings, and to exchange equal trees over one place."""
    codes = codes_of_places(frame, marks)
    turns = 1
    for ring in frame.around:
        begun = [codes[place] for place in ring]
        least = least_turn(begun)
        turns = turns * [begun[index:] + begun[:index] for index in range(len(begun))].count(least)
    trees = 1
    for under in frame.under:
        trees = trees * ways_to_order([codes[child] for child in under])
    return ways_to_order(codes_of_pieces(frame, codes)), turns, trees


def count_with(frame, marks):
    """How many rows that keep the chart keep the marks, too."""
    pieces, turns, trees = shares_with(frame, marks)
    return pieces * turns * trees


def count_with_own(frame, places):
    """How many rows that keep the chart leave each of the places as it is."""
    return count_with(frame, marks_of(len(frame.under), places))


def next_goals(frame, other_frame, places, goals):
    """Where rows that lead the first places to the goals may lead the last place, for which no goal is told yet."""
    wanted = code_with_own(frame, places)
    return [goal for goal in range(len(other_frame.under)) if code_with_own(other_frame, goals + [goal]) == wanted]


def nth_row(chart, other_chart, begun, number):
    """The row with this index of those from the chart to the other one that lead so for each (place, goal) of begun."""
    frame = Frame(chart)
    other_frame = Frame(other_chart)
    places = [place for place, _ in begun]
    goals = [goal for _, goal in begun]
    if code_with_own(frame, places) != code_with_own(other_frame, goals) or number >= count_with_own(frame, places):
        return None
    left = number
    for place in range(len(chart)):
        places.append(place)
        # Wherever the place is led, there are as many rows.
        each = count_with_own(frame, places)
        goals.append(next_goals(frame, other_frame, places, goals)[left // each])
        left = left % each
    return tuple(goals[len(begun):])


def alike_row(chart, other_chart):
    """The first row that leads from the chart to the other one."""
    return nth_alike_row(chart, other_chart, 0)


def is_row_between(chart, other_chart, row):
    return all([other_chart[row[place]] == row[chart[place]] for place in range(len(chart))])


def is_alike_row(chart, other_chart, value):
    """Whether the value is a row that leads from the chart to the other one."""
    check_chart(chart)
    check_chart(other_chart)
    return len(chart) == len(other_chart) and is_row_value(chart, value) and is_row_between(chart, other_chart, value)


def nth_alike_row(chart, other_chart, number):
    """Of the rows that lead from the chart to the other one the one with this index, or None."""
    check_chart(chart)
    check_chart(other_chart)
    check_number(number)
    check_alike(chart, other_chart)
    return nth_row(chart, other_chart, [], number)


def alike_count(chart):
    """How many charts are alike with the chart, itself among them."""
    check_chart(chart)
    return factorial(len(chart)) // count_with_own(Frame(chart), [])


def heaps(pool, begin, total):
    """All heaps of codes of so many places in all, of a pool of (places, code), the least ones first, from begin on."""
    if total == 0:
        return [()]
    told = []
    for index in range(begin, len(pool)):
        size, code = pool[index]
        if size > total:
            break
        told.extend([(code,) + rest for rest in heaps(pool, index, total - size)])
    return told


def sorted_heaps(pool, total):
    return [tuple(sorted(heap)) for heap in heaps(pool, 0, total)]


def tree_pool(most):
    """All (places, tree code) of trees of at most so many places."""
    pool = []
    for size in range(1, most + 1):
        found = sorted_heaps(pool, size - 1)
        pool.extend([(size, code) for code in found])
    return pool


def piece_pool(most):
    """All (places, piece code) of pieces of at most so many places."""
    trees = tree_pool(most)
    rows = [[()]]
    pool = []
    for size in range(1, most + 1):
        rows.append([(code,) + rest for places, code in trees if places <= size for rest in rows[size - places]])
        pool.extend([(size, row) for row in rows[size] if row == least_turn(row)])
    return pool


def codes_of_kinds(count):
    return sorted_heaps(piece_pool(count), count)


def kind_count(count):
    """How many kinds of charts with so many places there are."""
    check_within(count, 1, MOST_PLACES)
    return len(codes_of_kinds(count))


def kinds(count):
    """The chart codes of all kinds of charts with so many places, ascending."""
    check_within(count, 1, MOST_PLACES)
    if count > MOST_FOR_KINDS:
        raise TooMany(MOST_FOR_KINDS)
    return sorted(codes_of_kinds(count))
