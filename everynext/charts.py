"""Charts, their far steps and their texts."""

from everynext.checks import (
    MOST_PLACES,
    check_chart,
    check_chart_as_long,
    check_number,
    check_place,
    check_row,
    is_chart_value,
)
from everynext.errors import InvalidText

DIGITS = "0123456789"


def is_chart(value):
    """Whether the value is a chart."""
    return is_chart_value(value)


def one_behind_another(chart, other_chart):
    return tuple([other_chart[place] for place in chart])


def step(chart, number):
    """The chart in which each place leads to where it comes with so many steps."""
    check_chart(chart)
    check_number(number)
    # Going step by step would never end for numbers of many digits, so the steps are doubled.
    told = tuple(range(len(chart)))
    doubled = chart
    left = number
    while left > 0:
        if left % 2 == 1:
            told = one_behind_another(told, doubled)
        doubled = one_behind_another(doubled, doubled)
        left = left // 2
    return told


def after(chart, place, number):
    """The place to which the place comes with so many steps."""
    check_chart(chart)
    check_place(chart, place)
    return step(chart, number)[place]


def way(chart, place):
    """The unlike places to which the place comes, in their sequence, itself first."""
    check_chart(chart)
    check_place(chart, place)
    passed = [place]
    while chart[passed[-1]] not in passed:
        passed.append(chart[passed[-1]])
    return tuple(passed)


def leading(chart, place):
    """The lot of the places that lead to the place."""
    check_chart(chart)
    check_place(chart, place)
    return tuple([x for x in range(len(chart)) if chart[x] == place])


def image(chart):
    """The lot of the places to which some place leads."""
    check_chart(chart)
    return tuple(sorted(set(chart)))


def behind(chart, other_chart):
    """The chart that goes one step in the chart and then one in the other."""
    check_chart(chart)
    check_chart_as_long(chart, other_chart)
    return one_behind_another(chart, other_chart)


def renamed(chart, row):
    """The chart in which each place x is called row[x]."""
    check_chart(chart)
    check_row(chart, row)
    told = [0] * len(chart)
    for place in range(len(chart)):
        told[row[place]] = row[chart[place]]
    return tuple(told)


def with_next(chart, place, other_place):
    """The chart in which the place leads to the other place."""
    check_chart(chart)
    check_place(chart, place)
    check_place(chart, other_place)
    return chart[:place] + (other_place,) + chart[place + 1:]


def chart_text(chart):
    """For each place the digit of its next place."""
    check_chart(chart)
    return "".join([str(place) for place in chart])


def count_of_first_digits(text):
    count = 0
    while count < min(len(text), MOST_PLACES) and text[count] in DIGITS:
        count = count + 1
    return count


def chart_told(text):
    """The chart with this text."""
    if not isinstance(text, str):
        raise InvalidText(0)
    # Up to ten digits begin the text of a chart of ten places, whichever digits they are.
    begun = count_of_first_digits(text)
    told = tuple([int(digit) for digit in text[:begun]])
    if begun < len(text) or not is_chart_value(told):
        raise InvalidText(begun)
    return told
