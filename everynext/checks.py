"""What counts as an integer, a chart or a row, and the errors for what does not."""

from everynext.errors import InvalidChart, InvalidCount, InvalidPlace, InvalidRow

MOST_PLACES = 10


def is_integer(value):
    # Python counts True and False as integers; the document does not.
    return isinstance(value, int) and not isinstance(value, bool)


def is_integer_below(value, bound):
    return is_integer(value) and 0 <= value < bound


def is_tuple_below(value, bound):
    return isinstance(value, tuple) and all([is_integer_below(item, bound) for item in value])


def is_chart_value(value):
    # The length comes first, so that a long tuple is not looked through.
    return isinstance(value, tuple) and 1 <= len(value) <= MOST_PLACES and is_tuple_below(value, len(value))


def is_row_value(chart, value):
    return is_tuple_below(value, len(chart)) and sorted(value) == list(range(len(chart)))


def check_chart(chart):
    if not is_chart_value(chart):
        raise InvalidChart("a chart is a tuple of 1 to 10 integers, each from 0 on and less than their number")


def check_chart_as_long(chart, other_chart):
    check_chart(other_chart)
    if len(other_chart) != len(chart):
        raise InvalidChart("the other chart must have as many places as the chart")


def check_place(chart, place):
    if not is_integer_below(place, len(chart)):
        raise InvalidPlace("a place is an integer from 0 on and less than the number of places")


def check_row(chart, row):
    if not is_row_value(chart, row):
        raise InvalidRow("a row is a tuple of all places of the chart, each once")


def check_number(number):
    if not is_integer(number) or number < 0:
        raise InvalidCount("a number is an integer from 0 on")
