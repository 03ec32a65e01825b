"""Sample charts, wrong values, plain ways to reckon the same, and a runner for examples."""

import functools
import itertools
import time

TEXT_OF_NINETY_DIGITS = "7" + "3018492756" * 8 + "501846273"
NINETY_DIGITS = int(TEXT_OF_NINETY_DIGITS)

ONE = (0,)
EACH_ITS_OWN = tuple(range(10))
ONE_RING = (1, 2, 3, 4, 5, 6, 7, 8, 9, 0)
LONG_WAY = (0, 0, 1, 2, 3, 4, 5, 6, 7, 8)
LONG_WAY_TO_TWO = (1, 2, 3, 4, 5, 6, 7, 8, 9, 8)
STAR = (7,) * 10
PERIOD_THIRTY = (1, 0, 3, 4, 2, 6, 7, 8, 9, 5)
BUSHES = (3, 3, 3, 4, 5, 3, 5, 7, 7, 8)
EAR = (1, 2, 1, 2)
THREE_ALIKE_RINGS = (1, 2, 0, 4, 5, 3, 7, 8, 6, 6)
ALIKE_RINGS_ALIKE_TREES = (1, 0, 0, 1, 5, 4, 4, 5, 9, 8)
LENGTHS_THAT_DIVIDE = (0, 2, 1, 4, 5, 6, 3, 8, 7, 8)


def all_charts(count):
    return list(itertools.product(range(count), repeat=count))


def mixed_chart(count, seed):
    """A chart that looks thrown together, the same one at each call."""
    told, state = [], seed
    for _ in range(count):
        state = (state * 1103515245 + 12345) % 2 ** 31
        told.append((state >> 16) % count)
    return tuple(told)


SMALL_CHARTS = all_charts(1) + all_charts(2) + all_charts(3)
LARGE_CHARTS = [
    EACH_ITS_OWN, ONE_RING, LONG_WAY, LONG_WAY_TO_TWO, STAR, PERIOD_THIRTY, BUSHES, EAR,
    THREE_ALIKE_RINGS, ALIKE_RINGS_ALIKE_TREES, LENGTHS_THAT_DIVIDE, (1, 0, 3, 2, 5, 4, 7, 6, 9, 8),
    (1, 0, 3, 2), (2, 0, 1, 4, 3), (1, 0, 0, 2, 5, 6, 4), (0, 0, 1, 1, 5, 4, 4),
] + [mixed_chart(count, seed) for count in range(4, 11) for seed in (1, 2)]
CHARTS = SMALL_CHARTS + LARGE_CHARTS
# What the facts are looked at for: all charts of up to four places, and some of up to ten.
CHARTS_OF_FOUR = all_charts(4)
FACT_CHARTS = SMALL_CHARTS + CHARTS_OF_FOUR + LARGE_CHARTS
CHARTS_OF_TEN = [chart for chart in LARGE_CHARTS if len(chart) == 10]


def deep(value, levels=40):
    for _ in range(levels):
        value = (value,)
    return value


NOT_CHARTS = [
    True, False, None, 0, 1, -1, NINETY_DIGITS, "", "0", "1212", [], [0], [1, 2, 1, 2], (),
    (1,), (-1,), (0, 2), (0, -1), (3, 0, 0), (1, 2, 1, 4), (True,), (False,), (0, True), (False, 1),
    (0, 1, 2, False), ("0",), ("1", "0"), (None,), (0, None), ((0,),), (0, (1,)), ([0],), (0, [1]), ((), ()),
    (NINETY_DIGITS,), (-NINETY_DIGITS, 0), (0,) * 11, tuple(range(11)), (0,) * 3000, deep(0), deep(()), (0, deep(1)),
]
# Wrong as places of a chart of four places.
NOT_PLACES = [
    True, False, None, -1, -4, 4, 5, NINETY_DIGITS, -NINETY_DIGITS, "", "0", "1", (), (0,), [], [0], [1],
    deep(0), deep(()), (0,) * 11,
]
# Wrong as rows of a chart of four places.
NOT_ROWS = [
    True, False, None, 0, -1, "", "0123", [], [0, 1, 2, 3], (), (0,), (0, 1, 2), (0, 1, 2, 3, 4), (0, 0, 1, 2),
    (3, 3, 3, 3), (1, 2, 3, 4), (0, 1, 2, 4), (-1, 0, 1, 2), (False, True, 2, 3), (0, True, 2, 3), (False, 1, 2, 3),
    (0, 1, 2, "3"), (0, 1, 2, None), (0, 1, 2, (3,)), (0, 1, 2, [3]), (0, 1, 2, NINETY_DIGITS), tuple(range(11)),
    deep(0), deep((0, 1, 2, 3), 39),
]
NOT_NUMBERS = [
    True, False, None, -1, -2, -NINETY_DIGITS, "", "0", "1", (), (0,), (1,), [], [1], deep(1), (0,) * 11,
]
# Wrong as lots of places of a chart of four places.
NOT_LOTS = [
    True, False, None, 0, -1, "", "01", [], [0, 1], (1, 0), (0, 0), (0, 1, 1), (0, 2, 1), (-1,), (-1, 0), (4,), (0, 4),
    (0, 1, 2, 3, 4), (True,), (False, 1), (0, True), ("0",), (None,), (0, None), ((0,),), (0, (1,)), ([],),
    (NINETY_DIGITS,), (0,) * 3000, tuple(range(11)), deep(()), deep((0,), 39),
]
# No chart codes: a part too few or too many, out of sequence, turned, deeper, of another kind, of eleven places.
NOT_CODES = [
    True, False, None, 0, 1, NINETY_DIGITS, "", "()", [], (), ((),), ((), ((),)), (((),), ()), ((((),), ()),),
    (((((),), ()),),), (((), ((),)), ((),)), ((((),),), ((),)), (((((),),), ((),)),),
    ([()],), [((),)], (([],),), ((((), []),),), ((((), 0),),), (((0,),),), (("",),), (((True,),),), (((None,),),),
    (((),) * 11,), (((),),) * 11, (((),) * 10, ((),)), (((),),) + (((),) * 10,), ((((),) * 10,),), deep((), 13),
    deep(()), (deep(()),), (((),) * 3000,), (((),),) * 1500,
]
# Wrong as wishes beside charts of four places.
NOT_WISHES = [
    True, False, None, 0, -1, "", "00", [], [(0, 3)], ([0, 3],), ((0, 3), [1, 2]), (0, 3), ((0,),), ((0, 3, 1),), ((),),
    ((0, 4),), ((4, 0),), ((-1, 0),), ((0, -1),), ((0, True),), ((False, 1),), ((0, None),), (("0", "3"),),
    ((1, 2), (0, 3)), ((0, 3), (0, 3)), ((0, 1), (0, 3)), ((0, 3), (1, 2), (1, 3)), ((0, 3), (2, 1), (1, 2)),
    ((0, NINETY_DIGITS),), ((0, (3,)),), ((0, 0),) * 1000, deep((0, 3), 38), deep(()),
]
# Wrong as parts of a chart of four places.
NOT_PARTS = [
    True, False, None, 0, -1, "", "0123", [], (), ((),), ((), (0, 1, 2, 3)), ((0, 1, 2, 3), ()), (0, 1, 2, 3),
    [(0, 1), (2, 3)], ([0, 1], [2, 3]), ((0, 1), [2, 3]), ([0, 1], (2, 3)), ((2, 3), (0, 1)), ((0, 1), (3, 2)),
    ((1, 0), (2, 3)), ((0, 1), (2,)), ((0, 1), (1, 2, 3)), ((0, 1), (0, 1), (2, 3)), ((0, 0), (1, 2, 3)),
    ((0, 1), (2, 3, 4)), ((0, 1), (2, 3), (4,)), ((-1, 0), (1, 2, 3)), ((False, 1), (2, 3)), ((0, True), (2, 3)),
    ((0, 1), (2, "3")), ((0, 1), (2, None)), ((0, 1), (2, (3,))), ((0, 1), 2, 3), (((0, 1), (2, 3)),),
    ((0,), (1,), (2,), (3,), (4,)), tuple((place,) for place in range(11)), ((0, 1, 2, 3),) * 700, deep(()),
    deep((0, 1, 2, 3), 39), ((0, 1), (2, NINETY_DIGITS)),
]
# Wrong as lots beside a chart of four places.
NOT_LOTS_OF_LOTS = [
    True, False, None, 0, -1, "", [], [(0, 3)], (0, 3), ([0, 3],), ((0, 3), [1]), ((3, 0),), ((0, 0),), ((0, 4),),
    ((-1,),),
    ((0, True),), ((False,),), ((0, None),), ((0, "3"),), ((0, (3,)),), (((0, 3),),), ((), (1, 0)), ((0, 3), None),
    ((),) * 21, ((0, 3),) * 21, ((0,),) * 1000, deep(()), deep((0, 3), 39), ((NINETY_DIGITS,),),
]
# No trees: turned ties, a tie twice or out of sequence, rings of ties, of eleven places, and other values.
NOT_TREES = [
    True, False, None, 0, -1, "", "01", [], [(0, 1)], (0, 1), (0,), ((),), ((0,),), ((0, 0),), ((1, 0),), ((0, 2),),
    ((1, 2),),
    ((0, 1), (0, 1)), ((0, 1), (2, 1)), ((0, 2), (0, 1)), ((0, 1), (2, 3)), ((0, 1), (0, 2), (1, 2)), ((-1, 0),),
    ((0, 1), (0, 2), (1, 2), (3, 4)), ((0, 1), (1, 2), (1, 2)), ((0, 1), (1, 3)), ((0, 1), (1, 2), (2, 4)),
    ([0, 1],), ((0, 1), [1, 2]), ((0, 1, 2),), ((False, 1),), ((0, True),), ((0, "1"),), ((0, None),), ((0, (1,)),),
    ((0, 1), 2), ((0, 1), (1, NINETY_DIGITS)), tuple((0, place) for place in range(1, 11)),
    tuple((place, place + 1) for place in range(10)), ((0, 1),) * 1000, deep(()), deep((0, 1), 39),
    ((0, 1), (0, 2), (0, 3), (1, 2)),
]
# Wrong as leaf rows of trees of four places, and as forest rows of forests of four places with two roots.
NOT_TOLD_ROWS = [
    True, False, None, 0, -1, "", "12", [], [1, 0], (), (0,), (1, 2, 0), (1, 2, 3, 0), (0, 4), (4, 0), (-1, 0),
    (True, 0),
    (1, False), ("1", 0), (1, None), ((1,), 0), (1, [0]), (1, NINETY_DIGITS), (0,) * 10, (0,) * 3000, deep(()),
    deep((1, 0), 39),
]
NOT_LENGTHS = [
    True, False, None, 0, 1, -1, "", "12", (), [], [1], [1, 2], (0,), (-1,), (0, 1), (2, 1), (1, 2, 1), (10, 9), (1, 0),
    (10, 9, 8, 7, 6, 5, 4, 3, 2, 1), (1, 3, 2, 4), (True,), (1, True), (False, 1), ("1",), (1, "2"), (None,), (1, None),
    ((1,),), (1, (2,)), ([1],), (NINETY_DIGITS, 1), (-NINETY_DIGITS,), (0,) * 3000, (2,) * 2999 + (1,), deep(1),
    deep(()), deep((1, 2), 39),
]
# Wrong as fits of the chart (1, 2, 1, 2) into the chart (3, 3, 1, 0).
NOT_FITS = [
    True, False, None, 0, -1, "", "3031", [], [3, 0, 3, 1], (), (3,), (3, 0, 3), (3, 0, 3, 1, 3), (3, 0, 3, 1, 0),
    (3, 0, 3, 4), (3, 0, 3, -1), (3, 0, 3, 2), (3, 0, 3, 3), (1, 0, 3, 1), (3, 3, 3, 3), (0, 0, 0, 0), (3, 1, 3, 0),
    (3, False, 3, 1), (3, 0, 3, True), (3, 0, 3, "1"), (3, 0, 3, None), (3, 0, 3, (1,)), (3, 0, 3, [1]),
    (3, 0, 3, NINETY_DIGITS), (0,) * 3000, tuple(range(11)), deep(0), deep((3, 0, 3, 1), 39), ((3, 0, 3, 1),),
]
# Wrong as one clue for four places.
NOT_CLUES_OF_ONE = [
    True, False, None, 0, -1, "", "011", [], [0, 1, 1], (), (0,), (0, 1), (0, 1, 1, 1), (4, 1, 0), (0, 1, 4),
    (-1, 1, 0),
    (0, 1, -1), (0, -1, 1), (0, -NINETY_DIGITS, 1), (NINETY_DIGITS, 1, 0), (0, 1, NINETY_DIGITS), (True, 1, 1),
    (False, 1, 1), (0, True, 1), (0, False, 0), (0, 1, True), (0, 1, False), ("0", 1, 1), (0, "1", 1), (0, 1, "1"),
    (None, 1, 1), (0, None, 1), (0, 1, None), ((0,), 1, 1), (0, (1,), 1), (0, 1, (1,)), (0, [1], 1), (0, 1, [1]),
    (0,) * 3000, deep(0), deep(()), deep((0, 1, 1), 39),
]
# Wrong as clues for four places.
NOT_CLUES = [wrong if isinstance(wrong, list) else (wrong,) for wrong in NOT_CLUES_OF_ONE] + [
    True, False, None, 0, -1, "", "011", [(0, 1, 1)], (0, 1, 1), ([0, 1, 1],), ((0, 1, 1), [1, 2, 1]),
    ((1, 2, 1), (0, 1, 1)), ((0, 1, 1), (0, 1, 1)), ((0, 2, 2), (0, 1, 1)), ((0, 1, 1), (0, 1, 0)),
    ((0, 1, 1), (1, 1, 2), (1, 1, 2)), ((0, 1, 1), (1, 1, 4)), ((0, 1, 1), (4, 1, 1)), ((0, 1, 1), None),
    tuple((0, number, 0) for number in range(21)), ((0, 1, 1),) * 21, ((0, 0, 0),) * 700, (((0, 1, 1),),),
]
NOT_STRINGS = [True, False, None, 0, 10, -1, (), ("0",), ("1", "0"), (1, 0), [], ["0"], [0], deep("0")]


def not_within(most):
    """Wrong as integers from 1 to most."""
    return NOT_NUMBERS + [0, most + 1, most + 2, 10 * most, NINETY_DIGITS, str(most), (most,)]


def walked(chart, place, number):
    """Where a place comes, gone step by step; ten steps lead onto a ring, and 2520 lead once round each."""
    if number > 10:
        number = 10 + (number - 10) % 2520
    for _ in range(number):
        place = chart[place]
    return place


def plain_step(chart, number):
    return tuple(walked(chart, place, number) for place in range(len(chart)))


def is_plainly_on_ring(chart, place):
    return any(walked(chart, place, number) == place for number in range(1, len(chart) + 1))


def plain_depth(chart, place):
    return [is_plainly_on_ring(chart, walked(chart, place, k)) for k in range(len(chart))].index(True)


def plain_ring_of(chart, place):
    """The places that the places far ahead come to and that are on a ring, begun with the least one."""
    met = {walked(chart, place, number) for number in range(len(chart), 2 * len(chart))}
    told = [min(met)]
    while len(told) < len(met):
        told.append(chart[told[-1]])
    return tuple(told)


def some_rows(count):
    """All rows of up to three places, and some of more."""
    straight = tuple(range(count))
    if count < 4:
        return list(itertools.permutations(straight))
    turned = straight[1:] + straight[:1]
    swapped = (1, 0) + straight[2:]
    mixed = tuple(sorted(straight, key=lambda place: (place * 7 + 3) % 11))
    return [straight, straight[::-1], turned, swapped, mixed]


def leads(chart, other_chart, row):
    return all(other_chart[row[place]] == row[chart[place]] for place in range(len(chart)))


@functools.lru_cache(maxsize=None)
def plain_rows(chart, other_chart):
    """All rows that lead from the chart to the other one, each looked at."""
    return tuple(row for row in itertools.permutations(range(len(chart))) if leads(chart, other_chart, row))


@functools.lru_cache(maxsize=None)
def plain_tree_code(chart, place):
    children = [x for x in range(len(chart)) if chart[x] == place and not is_plainly_on_ring(chart, x)]
    return tuple(sorted(plain_tree_code(chart, child) for child in children))


def plain_piece_code(chart, place):
    ring = plain_ring_of(chart, place)
    turns = [ring[begin:] + ring[:begin] for begin in range(len(ring))]
    return min(tuple(plain_tree_code(chart, ringed) for ringed in turn) for turn in turns)


def plain_chart_code(chart):
    rings = sorted({plain_ring_of(chart, place) for place in range(len(chart))})
    return tuple(sorted(plain_piece_code(chart, ring[0]) for ring in rings))


def plainly_renamed(chart, row):
    return tuple(row[chart[row.index(place)]] for place in range(len(chart)))


@functools.lru_cache(maxsize=None)
def plain_along(chart):
    """All charts that go along with the chart, each looked at."""
    return tuple(other for other in all_charts(len(chart)) if leads(chart, chart, other))


@functools.lru_cache(maxsize=None)
def plain_fits(chart, other_chart):
    """All fits, each looked at."""
    rows = itertools.product(range(len(other_chart)), repeat=len(chart))
    return tuple(row for row in rows if leads(chart, other_chart, row))


@functools.lru_cache(maxsize=None)
def one_of_each_kind(count):
    """The first chart of each kind of so many places."""
    told = {}
    for chart in all_charts(count):
        told.setdefault(plain_chart_code(chart), chart)
    return tuple(told.values())


def plainly_meets(chart, clues):
    return all(walked(chart, place, number) == goal for place, number, goal in clues)


def plain_meeting(count, clues):
    """All charts that meet the clues, each looked at."""
    return [chart for chart in all_charts(count) if plainly_meets(chart, clues)]


@functools.lru_cache(maxsize=None)
def all_parts(count):
    """All parts of so many places, ascending."""
    if count == 0:
        return [()]
    told = []
    for parts in all_parts(count - 1):
        told.append(parts + ((count - 1,),))
        for index, part in enumerate(parts):
            told.append(parts[:index] + (part + (count - 1,),) + parts[index + 1:])
    return sorted(tuple(sorted(parts)) for parts in told)


def are_together(parts, place, other_place):
    return any(place in part and other_place in part for part in parts)


def is_finer(parts, others):
    return all(any(set(part) <= set(other) for other in others) for part in parts)


def are_plainly_kept(chart, parts):
    return all(are_together(parts, chart[x], chart[y]) for part in parts for x in part for y in part)


@functools.lru_cache(maxsize=None)
def all_kept_parts(chart):
    return tuple(parts for parts in all_parts(len(chart)) if are_plainly_kept(chart, parts))


def is_plainly_kept(chart, lot):
    return all(chart[place] in lot for place in lot)


def all_kept_lots(chart):
    return [lot for lot in all_lots(len(chart)) if is_plainly_kept(chart, lot)]


def plain_tree_way(tree, place, other_place):
    """The way along the ties from the one to the other, found among all ways that come to no place twice."""
    ways = [(place,)]
    for way in ways:
        if way[-1] == other_place:
            return way
        for tie in tree:
            if way[-1] in tie:
                near = sum(tie) - way[-1]
                if near not in way:
                    ways.append(way + (near,))
    return None


@functools.lru_cache(maxsize=None)
def all_trees(count):
    """All trees of so many places, ascending, found among all tuples of as many ties."""
    ties = list(itertools.combinations(range(count), 2))
    return [
        tree for tree in itertools.combinations(ties, count - 1)
        if all(plain_tree_way(tree, 0, place) for place in range(count))
    ]


def all_lots(count):
    """All lots of so many places, in lot order."""
    return [lot for size in range(count + 1) for lot in itertools.combinations(range(count), size)]


MOST_SECONDS = 5


def told_in_time(test, function, *values):
    """What the call returns; fails if it takes too long."""
    begun = time.perf_counter()
    try:
        return function(*values)
    finally:
        test.assertLess(time.perf_counter() - begun, MOST_SECONDS, (function, values))


def raised_by(test, function, *values):
    """The class and the fields of the error that the call raises, which must be one of the package."""
    with test.assertRaises(ValueError, msg=(function, values)) as caught:
        function(*values)
    return state_of(caught.exception)


def state_of(error):
    return error.__class__, vars(error)


def run_examples(test, text, names):
    """Runs examples as the document writes them: a row behind >>>, and what it gives or raises below."""
    rows = text.strip().split("\n")
    for index, row in enumerate(rows):
        if not row.startswith(">>> "):
            continue
        code = row[4:]
        wanted = rows[index + 1] if index + 1 < len(rows) else ">>> "
        if wanted.startswith(">>> "):
            exec(code, names)
        elif wanted.startswith("raises "):
            with test.assertRaises(ValueError, msg=code) as caught:
                eval(code, names)
            test.assertEqual(state_of(caught.exception), state_of(eval(wanted[7:], names)), code)
        else:
            test.assertEqual(repr(eval(code, names)), wanted, code)
