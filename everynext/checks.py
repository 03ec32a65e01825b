"""What counts as an integer, a chart or a row, and the errors for what does not."""

from everynext.errors import (
    InvalidChart,
    InvalidCount,
    InvalidLengths,
    InvalidLot,
    InvalidLots,
    InvalidParts,
    InvalidPlace,
    InvalidRow,
    InvalidWishes,
    TooMany,
)

MOST_PLACES = 10
MOST_POWER = 1000
MOST_STEPS = 60
MOST_LOTS = 20


def is_integer(value):
    # Python counts True and False as integers; the document does not.
    return isinstance(value, int) and not isinstance(value, bool)


def is_integer_below(value, bound):
    return is_integer(value) and 0 <= value < bound


def is_tuple_below(value, bound):
    return isinstance(value, tuple) and all([is_integer_below(item, bound) for item in value])


def is_chart_value(value):
    # The length comes first, so that a long tuple is not looked through.
    return isinstance(value, tuple) and 1 <= len(value) <= MOST_PLACES and is_tuple_below(value, len(value))


def is_row_value(chart, value):
    return is_tuple_below(value, len(chart)) and sorted(value) == list(range(len(chart)))


def check_chart(chart):
    if not is_chart_value(chart):
        raise InvalidChart("a chart is a tuple of 1 to 10 integers, each from 0 on and less than their number")


def check_chart_as_long(chart, other_chart):
    check_chart(other_chart)
    if len(other_chart) != len(chart):
        raise InvalidChart("the other chart must have as many places as the chart")


def check_place_below(place, bound):
    if not is_integer_below(place, bound):
        raise InvalidPlace("a place is an integer from 0 on and less than the number of places")


def check_place(chart, place):
    check_place_below(place, len(chart))


def check_row(chart, row):
    if not is_row_value(chart, row):
        raise InvalidRow("a row is a tuple of all places of the chart, each once")


def check_number(number):
    if not is_integer(number) or number < 0:
        raise InvalidCount("a number is an integer from 0 on")


def check_count(count):
    if not is_integer(count) or count < 1:
        raise InvalidCount("a count is an integer from 1 on")


def is_ascending(values):
    # Ascending means without duplicates, so each entry is less than the one behind it.
    return all([x < y for x, y in zip(values, values[1:])])


def is_lot_below(value, bound):
    return is_tuple_below(value, bound) and is_ascending(value)


def check_lot(chart, lot):
    if not is_lot_below(lot, len(chart)):
        raise InvalidLot("a lot is an ascending tuple of places, each at most once")


def check_within(value, least, most):
    if not is_integer(value) or not least <= value <= most:
        raise InvalidCount("the integer is not within its bounds")


def check_many(many):
    check_within(many, 1, MOST_PLACES)


def check_power(power):
    check_within(power, 1, MOST_POWER)


def check_lengths(lengths):
    rightly = isinstance(lengths, tuple) and lengths != () and all([is_integer(length) for length in lengths])
    if not rightly or lengths[0] < 1 or not all([x <= y for x, y in zip(lengths, lengths[1:])]):
        raise InvalidLengths("lengths are a tuple of one or more integers from 1 on, none less than the one ahead")


def check_few_places(chart, most):
    if len(chart) > most:
        raise TooMany(most)


def is_pair_below(value, bound, other_bound):
    if not isinstance(value, tuple) or len(value) != 2:
        return False
    return is_integer_below(value[0], bound) and is_integer_below(value[1], other_bound)


def check_wishes(chart, other_chart, wishes):
    rightly = isinstance(wishes, tuple) and all([is_pair_below(wish, len(chart), len(other_chart)) for wish in wishes])
    if not rightly or not is_ascending([place for place, _ in wishes]):
        raise InvalidWishes("wishes are an ascending tuple of pairs of places, none beginning with the same place")


def is_parts_below(value, bound):
    if not isinstance(value, tuple) or not all([is_lot_below(lot, bound) and lot != () for lot in value]):
        return False
    return is_ascending(value) and sorted([place for lot in value for place in lot]) == list(range(bound))


def check_parts(chart, parts):
    if not is_parts_below(parts, len(chart)):
        raise InvalidParts("parts are an ascending tuple of lots that have each place once")


def check_lots(chart, lots):
    rightly = isinstance(lots, tuple) and len(lots) <= MOST_LOTS
    if not rightly or not all([is_lot_below(lot, len(chart)) for lot in lots]):
        raise InvalidLots("lots are a tuple of at most twenty lots")
