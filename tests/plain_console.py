"""A plain console to hold the program against, over the live charts of the package, and drawn commands."""

import copy
import re

from everynext.charts import chart_told
from everynext.errors import InvalidCommand, NotReady
from everynext.live import Live, WholeLive

NAME = "[a-z]{1,8}"
NUMBER = "(?:0|[1-9][0-9]{0,3})"
TEXT = "[^ ]+"
ONE_COMMAND = re.compile("|".join([
    f"(chart|whole) ({NAME}) ({TEXT})", f"(use|twin|forget|same) ({NAME})",
    f"(lead|exchange) ({NUMBER}) ({NUMBER})", f"(come|leave|stepin|go|send|walk) ({NUMBER})",
    "(turn|undo|begin|keep|drop|show|marks|depths|walker|rings|sizes|moments|where|paper|journal)",
]), re.DOTALL)


def words_of(command):
    found = ONE_COMMAND.fullmatch(command)
    if found is None:
        raise InvalidCommand("")
    return [word for word in found.groups() if word is not None]


def deed_text(deed):
    return " ".join(map(str, deed)).replace("step_in", "stepin")


def joined(rows, sign):
    return " ".join(sign.join(map(str, row)) for row in rows)


class PlainConsole:
    def __init__(self):
        self.lives = {}
        self.chosen = None

    def execute(self, command):
        if type(command) is not str:
            raise InvalidCommand("")
        if not command.startswith("run "):
            return self.answer(words_of(command))
        commands = [words_of(one) for one in re.split("; ", command[len("run "):])]
        kept = copy.deepcopy(self.lives), self.chosen
        try:
            return "; ".join([self.answer(words) for words in commands])
        except ValueError:
            self.lives, self.chosen = kept
            raise

    def answer(self, words):
        word, values = words[0], words[1:]
        if word not in ("chart", "whole", "use", "forget") and self.chosen is None:
            raise NotReady("")
        if word in ("use", "forget", "same") and values[0] not in self.lives:
            raise NotReady("")
        if word in ("chart", "whole"):
            chart = chart_told(values[1])
            self.lives[values[0]] = (Live if word == "chart" else WholeLive)(chart)
        if word in ("chart", "whole", "use"):
            self.chosen = values[0]
            return "ok"
        if word == "forget":
            self.chosen = None if self.chosen == values[0] else self.chosen
            self.lives.pop(values[0])
            return "ok"
        return self.answer_of_chosen(self.lives[self.chosen], word, values)

    def answer_of_chosen(self, live, word, values):
        if word == "twin":
            self.lives[values[0]] = live.twin()
            return "ok"
        if word == "same":
            return {True: "yes", False: "no"}[live == self.lives[values[0]]]
        numbers = [int(value) for value in values]
        if word in ("come", "leave", "lead", "exchange", "stepin", "turn", "go", "send", "begin", "keep", "drop"):
            told = getattr(live, "step_in" if word == "stepin" else word)(*numbers)
            return "ok" if told is None else str(told)
        if word == "walk":
            return joined([[mark] for mark in live.walk(*numbers)], "")
        return self.told(live, word)

    def told(self, live, word):
        chart = live.chart
        tell = {
            "undo": lambda: deed_text(live.undo()),
            "show": lambda: "".join(map(str, chart)),
            "marks": lambda: joined([live.marks], " "),
            "depths": lambda: joined([live.depths()], " "),
            "walker": lambda: str(live.walker),
            "rings": lambda: joined(live.rings(), "-"),
            "sizes": lambda: joined(live.sizes(), "/"),
            "moments": lambda: joined(live.moments(), "="),
            "where": lambda: f"{len(chart)} {len(live.deeds)} {live.depth}",
            "paper": lambda: "k;" + "".join(map(str, chart)) + ";" + plain_parts_text(chart),
            "journal": lambda: "; ".join([
                f"{'whole' if type(live) is WholeLive else 'chart'} {self.chosen} {''.join(map(str, live.start))}",
                *map(deed_text, live.deeds),
            ]),
        }
        return tell[word]()


def plain_parts_text(chart):
    """The parts of places that come together: those that are at one place behind ten steps."""
    reached = list(range(len(chart)))
    for _ in range(10):
        reached = [chart[place] for place in reached]
    lots = sorted({tuple(y for y in range(len(chart)) if reached[y] == goal) for goal in reached})
    return ",".join("".join(map(str, lot)) for lot in lots)


def drawn_command(draw, names, texts):
    """A command other than a run, mostly a deed or a question."""
    mark = [str(draw.below(12)), str(draw.below(8))]
    name = draw.one_of(names)
    kind = draw.below(20)
    if kind < 3:
        return " ".join([draw.one_of(["chart", "whole"]), name, draw.one_of(texts)])
    if kind < 6:
        return " ".join([draw.one_of(["use", "twin", "forget", "same", "use"]), name])
    if kind < 12:
        word = draw.one_of(["come", "leave", "lead", "exchange", "stepin", "turn", "go", "send"])
        return " ".join([word, *mark[:{"lead": 2, "exchange": 2, "turn": 0}.get(word, 1)]])
    return draw.one_of([
        "undo", "begin", "keep", "drop", "show", "marks", "depths", "walk 5", "walk 1001", "walker", "rings", "sizes",
        "moments", "where", "paper", "journal",
    ])
