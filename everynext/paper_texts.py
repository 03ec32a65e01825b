"""Papers, which show that two charts are alike, a root, a fit or kept parts, and their texts."""

from everynext.charts import DIGITS, step
from everynext.checks import (
    MOST_PLACES,
    MOST_POWER,
    is_chart_value,
    is_integer,
    is_parts_below,
    is_row_value,
    is_tuple_below,
)
from everynext.errors import InvalidPaper, InvalidText, NotShown
from everynext.likenesses import first_failing

LETTERS = {"alike": "a", "root": "r", "fit": "f", "kept": "k"}
WORDS = {"a": "alike", "r": "root", "f": "fit", "k": "kept"}


def is_alike_form(chart, other_chart, row):
    return is_chart_value(other_chart) and len(other_chart) == len(chart) and is_row_value(chart, row)


def is_root_form(chart, count, other_chart):
    if not is_integer(count) or not 1 <= count <= MOST_POWER:
        return False
    return is_chart_value(other_chart) and len(other_chart) == len(chart)


def is_fit_form(chart, other_chart, images):
    if not is_chart_value(other_chart) or not is_tuple_below(images, len(other_chart)):
        return False
    return len(images) == len(chart)


def is_kept_form(chart, parts):
    return is_parts_below(parts, len(chart))


def first_not_led(chart, other_chart, row):
    failing = [place for place in range(len(chart)) if other_chart[row[place]] != row[chart[place]]]
    return failing[0] if failing else None


def first_not_reached(chart, count, other_chart):
    reached = step(other_chart, count)
    failing = [place for place in range(len(chart)) if reached[place] != chart[place]]
    return failing[0] if failing else None


def first_torn(chart, parts):
    return first_failing(chart, parts)


# For each word whether what stands behind it has its form, and the first place of which it does not hold.
FORMS = {"alike": is_alike_form, "root": is_root_form, "fit": is_fit_form, "kept": is_kept_form}
FAULTS = {"alike": first_not_led, "root": first_not_reached, "fit": first_not_led, "kept": first_torn}


def is_form(value):
    if not isinstance(value, tuple) or value == () or not isinstance(value[0], str) or value[0] not in FORMS:
        return False
    if len(value) != (3 if value[0] == "kept" else 4) or not is_chart_value(value[1]):
        return False
    judge = FORMS[value[0]]
    values = value[1:]
    return judge(*values)


def first_fault(paper):
    """The first place of which it does not hold what a paper of this word asks, or None."""
    find = FAULTS[paper[0]]
    values = paper[1:]
    return find(*values)


def is_paper(value):
    """Whether the value is a paper."""
    return is_form(value) and first_fault(value) is None


def digits_of(places):
    return "".join([str(place) for place in places])


def text_of(part):
    """The text of a count, of parts, or of a chart, a row or images."""
    if is_integer(part):
        return str(part)
    if isinstance(part[0], tuple):
        return ",".join([digits_of(lot) for lot in part])
    return digits_of(part)


def paper_text(value):
    """The text of the paper."""
    if not is_paper(value):
        raise InvalidPaper("no paper of one of the four words")
    return ";".join([LETTERS[value[0]]] + [text_of(part) for part in value[1:]])


class Reader:
    """A text and how much of it has been read; each sign is refused with which no form can begin any more."""

    def __init__(self, text):
        self.text = text
        self.at = 0

    def following(self):
        """The next sign, "" at the end."""
        return self.text[self.at:self.at + 1]

    def take_sign(self, allowed):
        """Reads one of the signs that are allowed."""
        found = self.following()
        if found == "" or found not in allowed:
            raise InvalidText(self.at)
        self.at = self.at + 1
        return found

    def take_end(self):
        if self.at < len(self.text):
            raise InvalidText(self.at)

    def take_digit(self, allowed):
        """Reads one of the places that are allowed."""
        return int(self.take_sign(digits_of(allowed)))

    def take_chart(self):
        """Reads a chart of any number of places and the sign behind it."""
        told = []
        # Up to ten digits begin a chart, whichever they are; only its end tells whether it is one.
        while len(told) < MOST_PLACES and self.following() != "" and self.following() in DIGITS:
            told.append(int(self.take_sign(DIGITS)))
        if not is_chart_value(tuple(told)):
            raise InvalidText(self.at)
        self.take_sign(";")
        return tuple(told)

    def take_places(self, count, bound):
        """Reads so many places below the bound."""
        return tuple([self.take_digit(list(range(bound))) for _ in range(count)])

    def take_row(self, count):
        """Reads a row of so many places."""
        told = []
        for _ in range(count):
            told.append(self.take_digit([place for place in range(count) if place not in told]))
        return tuple(told)

    def take_power(self):
        """Reads a count from 1 to 1,000 and the sign behind it."""
        told = int(self.take_sign(DIGITS[1:]))
        while self.following() != ";":
            allowed = [digit for digit in range(10) if 10 * told + digit <= MOST_POWER]
            told = 10 * told + self.take_digit(allowed)
        self.take_sign(";")
        return told

    def take_parts(self, count):
        """Reads parts of so many places."""
        left = list(range(count))
        told = []
        while left:
            if told:
                self.take_sign(",")
            lot = [self.take_digit(left[:1])]
            while self.following() not in ("", ","):
                lot.append(self.take_digit([place for place in left if place > lot[-1]]))
            left = [place for place in left if place not in lot]
            told.append(tuple(lot))
        return tuple(told)


def read_behind(reader, word, chart):
    """Reads what stands behind the first chart, in the sequence of the paper."""
    if word == "kept":
        return (reader.take_parts(len(chart)),)
    if word == "root":
        power = reader.take_power()
        return power, reader.take_places(len(chart), len(chart))
    if word == "fit":
        other_chart = reader.take_chart()
        return other_chart, reader.take_places(len(chart), len(other_chart))
    other_chart = reader.take_places(len(chart), len(chart))
    reader.take_sign(";")
    return other_chart, reader.take_row(len(chart))


def paper_told(text):
    """The paper with this text."""
    if not isinstance(text, str):
        raise InvalidText(0)
    reader = Reader(text)
    word = WORDS[reader.take_sign("arfk")]
    reader.take_sign(";")
    chart = reader.take_chart()
    paper = (word, chart) + read_behind(reader, word, chart)
    reader.take_end()
    fault = first_fault(paper)
    if fault is not None:
        raise NotShown(fault)
    return paper
