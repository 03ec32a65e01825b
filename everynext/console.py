"""A console: commands, which are texts, about live charts that stand by names."""

from everynext.charts import DIGITS, chart_text, chart_told
from everynext.errors import InvalidCommand, NotReady
from everynext.joining import together_parts
from everynext.live import Live, WholeLive, act
from everynext.paper_texts import paper_text

SMALL_LETTERS = "abcdefghijklmnopqrstuvwxyz"
MOST_LETTERS = 8
MOST_DIGITS = 4

# For each command but run what its further words are.
FORMS = {
    "chart": ("name", "text"), "whole": ("name", "text"), "use": ("name",), "twin": ("name",), "forget": ("name",),
    "same": ("name",),
    "come": ("number",), "leave": ("number",), "lead": ("number", "number"), "exchange": ("number", "number"),
    "stepin": ("number",), "turn": (), "go": ("number",), "send": ("number",),
    "undo": (), "begin": (), "keep": (), "drop": (),
    "show": (), "marks": (), "depths": (), "walk": ("number",), "walker": (), "rings": (), "sizes": (), "moments": (),
    "where": (), "paper": (), "journal": (),
}
# What each command of a deed is called among the deeds of a live chart.
DEEDS_OF_COMMANDS = {
    "come": "come", "leave": "leave", "lead": "lead", "exchange": "exchange", "stepin": "step_in", "turn": "turn",
    "go": "go", "send": "send",
}


def has_only(word, signs, most):
    return 1 <= len(word) <= most and all([sign in signs for sign in word])


def is_of_form(word, form):
    if form == "name":
        return has_only(word, SMALL_LETTERS, MOST_LETTERS)
    if form == "number":
        return has_only(word, DIGITS, MOST_DIGITS) and (word == "0" or word[0] != "0")
    return word != ""


def is_one_command(words):
    """Whether the words are those of a command other than run."""
    if words[0] not in FORMS or len(words) - 1 != len(FORMS[words[0]]):
        return False
    return all([is_of_form(word, form) for word, form in zip(words[1:], FORMS[words[0]])])


def commands_of(command):
    """The words of each command that is to be executed."""
    if not isinstance(command, str):
        raise InvalidCommand("a command is a string")
    # No command has a semicolon and a blank behind it within itself, so the text is parted in one way only.
    texts = command[4:].split("; ") if command.startswith("run ") else [command]
    told = [text.split(" ") for text in texts]
    if not all([is_one_command(words) for words in told]):
        raise InvalidCommand("no command has this form")
    return told


def command_of(deed):
    """The command of a deed."""
    return " ".join([deed[0].replace("_", "")] + [str(value) for value in deed[1:]])


def joined(values, sign):
    return sign.join([str(value) for value in values])


def all_joined(rows, sign):
    return " ".join([joined(row, sign) for row in rows])


def undone(live):
    return command_of(live.undo())


def begun(live):
    live.begin()
    return "ok"


def kept(live):
    live.keep()
    return "ok"


def dropped(live):
    live.drop()
    return "ok"


def told_chart(live):
    return chart_text(live.chart)


def told_marks(live):
    return joined(live.marks, " ")


def told_depths(live):
    return joined(live.depths(), " ")


def told_walker(live):
    return str(live.walker)


def told_rings(live):
    return all_joined(live.rings(), "-")


def told_sizes(live):
    return all_joined(live.sizes(), "/")


def told_moments(live):
    return all_joined(live.moments(), "=")


def told_numbers(live):
    return joined([len(live.chart), len(live.deeds), live.depth], " ")


def told_paper(live):
    return paper_text(("kept", live.chart, together_parts(live.chart)))


def told_journal(live, name):
    """The commands that make an equal live chart."""
    word = "whole" if isinstance(live, WholeLive) else "chart"
    return "; ".join([" ".join([word, name, chart_text(live.start)])] + [command_of(deed) for deed in live.deeds])


# The answer of each command that needs nothing but the chosen live chart.
ANSWERS = {
    "undo": undone, "begin": begun, "keep": kept, "drop": dropped, "show": told_chart, "marks": told_marks,
    "depths": told_depths, "walker": told_walker, "rings": told_rings, "sizes": told_sizes, "moments": told_moments,
    "where": told_numbers, "paper": told_paper,
}


class Console:
    """Live charts that stand by names; one of them may be chosen."""

    def __init__(self):
        self._lives = {}
        self._chosen = None

    def execute(self, command):
        """Executes the command and returns its answer."""
        commands = commands_of(command)
        # All is tried with twins, so that nothing of it is left if one of the commands raises an error.
        trial = self._copy()
        answers = [trial._answer(words) for words in commands]
        self._lives = trial._lives
        self._chosen = trial._chosen
        return "; ".join(answers)

    def _copy(self):
        told = Console()
        told._lives = {name: self._lives[name].twin_with_spans() for name in self._lives}
        told._chosen = self._chosen
        return told

    def _answer(self, words):
        """The answer of one command, which is told by its words."""
        self._check_ready(words)
        word = words[0]
        if word in ("use", "twin", "forget", "same"):
            return self._answer_by_name(word, words[1])
        if word in ("chart", "whole"):
            chart = chart_told(words[2])
            self._lives[words[1]] = Live(chart) if word == "chart" else WholeLive(chart)
            self._chosen = words[1]
            return "ok"
        numbers = [int(number) for number in words[1:]]
        return self._answer_of_chosen(word, numbers)

    def _check_ready(self, words):
        if self._chosen is None and words[0] not in ("use", "forget", "chart", "whole"):
            raise NotReady("no live chart is chosen")
        if words[0] in ("use", "forget", "same") and words[1] not in self._lives:
            raise NotReady("no live chart stands by this name")

    def _answer_by_name(self, word, name):
        if word == "same":
            return "yes" if self._lives[self._chosen] == self._lives[name] else "no"
        if word == "use":
            self._chosen = name
        elif word == "twin":
            self._lives[name] = self._lives[self._chosen].twin()
        else:
            del self._lives[name]
            if self._chosen == name:
                self._chosen = None
        return "ok"

    def _answer_of_chosen(self, word, numbers):
        live = self._lives[self._chosen]
        if word in DEEDS_OF_COMMANDS:
            told = act(live, (DEEDS_OF_COMMANDS[word], *numbers))
            return "ok" if told is None else str(told)
        if word == "walk":
            return joined(live.walk(numbers[0]), " ")
        if word == "journal":
            return told_journal(live, self._chosen)
        tell = ANSWERS[word]
        return tell(live)
