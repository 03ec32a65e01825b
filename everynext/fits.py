"""Fits of a chart into another one: whoever goes on in the one goes on in the other, too."""

from itertools import combinations

from everynext.along import least_rings
from everynext.checks import check_chart, check_lot, check_number, check_wishes, is_tuple_below
from everynext.codes import is_row_between
from everynext.errors import InvalidFit, InvalidLot, NoFit, TooMany
from everynext.kept_lots import has_its_next_places
from everynext.likenesses import parts_by
from everynext.mappings import Pair, all_maps, count_with_wishes, map_number, nth_map
from everynext.rings import pieces, rings

MOST_FITS = 1000


def is_fit_between(chart, other_chart, value):
    rightly = is_tuple_below(value, len(other_chart)) and len(value) == len(chart)
    return rightly and is_row_between(chart, other_chart, value)


def check_fit(chart, other_chart, fit):
    if not is_fit_between(chart, other_chart, fit):
        raise InvalidFit("a fit tells for each place one of the other chart, and goes along with the next steps")


def is_fit(chart, other_chart, value):
    """Whether the value is a fit of the chart into the other one."""
    check_chart(chart)
    check_chart(other_chart)
    return is_fit_between(chart, other_chart, value)


def fit_count(chart, other_chart):
    """How many fits there are."""
    return wished_count(chart, other_chart, ())


def nth_fit(chart, other_chart, number):
    """The fit with this index, or None."""
    check_chart(chart)
    check_chart(other_chart)
    check_number(number)
    return nth_map(Pair(chart, other_chart), (), number)


def fit_number(chart, other_chart, fit):
    """The index of the fit."""
    check_chart(chart)
    check_chart(other_chart)
    check_fit(chart, other_chart, fit)
    return map_number(Pair(chart, other_chart), fit)


def rings_not_led(chart, other_chart):
    lengths = [len(ring) for ring in rings(other_chart)]
    return [ring for ring in rings(chart) if all([len(ring) % length != 0 for length in lengths])]


def first_fit(chart, other_chart):
    """The first fit."""
    check_chart(chart)
    check_chart(other_chart)
    failing = rings_not_led(chart, other_chart)
    if failing:
        raise NoFit(failing[0])
    return nth_map(Pair(chart, other_chart), (), 0)


def all_fits(chart, other_chart):
    """All fits, ascending."""
    if fit_count(chart, other_chart) > MOST_FITS:
        raise TooMany(MOST_FITS)
    return all_maps(Pair(chart, other_chart))


def wished_count(chart, other_chart, wishes):
    """How many fits meet the wishes."""
    check_chart(chart)
    check_chart(other_chart)
    check_wishes(chart, other_chart, wishes)
    return count_with_wishes(Pair(chart, other_chart), dict(wishes))


def first_wished(chart, other_chart, wishes):
    """The first fit that meets the wishes, or None."""
    check_chart(chart)
    check_chart(other_chart)
    check_wishes(chart, other_chart, wishes)
    return nth_map(Pair(chart, other_chart), wishes, 0)


def fit_image(chart, other_chart, fit):
    """The lot of the places of the other chart that stand in the fit."""
    check_chart(chart)
    check_chart(other_chart)
    check_fit(chart, other_chart, fit)
    return tuple(sorted(set(fit)))


def fit_split(chart, other_chart, fit):
    """The lots of the places that the fit leads to one place, ascending."""
    check_chart(chart)
    check_chart(other_chart)
    check_fit(chart, other_chart, fit)
    return parts_by(fit)


def ends(chart):
    """The lots of which a kept lot that is not all of the chart misses one: places to which none leads, lone rings."""
    lone = [lot for lot in pieces(chart) if len(set([chart[place] for place in lot])) == len(lot)]
    return lone + [(place,) for place in range(len(chart)) if place not in chart]


def onto_count(chart, other_chart):
    """How many fits have all places of the other chart as their image."""
    check_chart(chart)
    check_chart(other_chart)
    pair = Pair(chart, other_chart)
    found = ends(other_chart)
    told = 0
    # Fits that miss several ends are taken away once for each of these, so they are put back by turns.
    for size in range(len(found) + 1):
        sign = 1 if size % 2 == 0 else -1
        for missed in combinations(found, size):
            gone = [place for end in missed for place in end]
            told = told + sign * count_with_wishes(pair, {}, gone)
    return told


def can_lay(chart, lot):
    """Whether some fit of the chart into itself has its image in the lot."""
    check_chart(chart)
    check_lot(chart, lot)
    if lot == () or not has_its_next_places(chart, lot):
        raise InvalidLot("a kept lot of one place or more was asked for")
    gone = [place for place in range(len(chart)) if place not in lot]
    return count_with_wishes(Pair(chart, chart), {}, gone) > 0


def core(chart):
    """The first lot in lot order that the chart can be laid into."""
    check_chart(chart)
    return tuple(sorted([place for ring in least_rings(chart) for place in ring]))


def go_both_ways(chart, other_chart):
    """Whether each of the charts has a fit into the other one."""
    check_chart(chart)
    check_chart(other_chart)
    return not rings_not_led(chart, other_chart) and not rings_not_led(other_chart, chart)
