"""Points [42] and [43]: the console."""

import unittest

from everynext.console import Console
from everynext.errors import (
    InvalidCommand, InvalidCount, InvalidPlace, InvalidText, NoSpan, NothingToUndo, NotReady, NotWhole, Refused,
    TooMany,
)
from tests.helpers import (
    CHARTS_OF_TEN, LARGE_CHARTS, NINETY_DIGITS, NOT_CHARTS, NOT_STRINGS, deep, raised_by, state_of, told_in_time,
)
from tests.plain_console import PlainConsole, drawn_command
from tests.plain_lives import Draw

WITHOUT_WORDS = [
    "turn", "undo", "begin", "keep", "drop", "show", "marks", "depths", "walker", "rings", "sizes", "moments", "where",
    "paper", "journal",
]
WITH_A_NUMBER = ["come", "leave", "stepin", "go", "send", "walk"]
WITH_A_NAME = ["use", "twin", "forget", "same"]
QUESTIONS = [
    "show", "marks", "depths", "walk 9", "walker", "rings", "sizes", "moments", "where", "paper", "journal",
]
NO_NUMBERS = [
    "00", "01", "007", "10000", "12345", "00000", "-1", "+1", "1.0", "1e3", "x", "a", "1a", "1;", "0x1", "1_0", "\n",
    "1\n",
    "\t1", "",
]
NO_NAMES = [
    "A", "aA", "a1", "1", "abcdefghi", "a_b", "a-b", "a;", ";", "a,", "a\n", "\ta", "a\t", "a.b", "Name", "",
]
NO_COMMANDS = [
    "", " ", "  ", ";", "; ", "x", "chart", "chart a", "chart 1200", "chart  a 1200", "chart a  1200", " chart a 1200",
    "chart a 1200 ", "chart a 1200 1", "chart a b 1200", "Chart a 1200", "CHART a 1200", "chart\ta 1200",
    "chart a\t1200",
    "chart\na 1200", "chart a 1200; show", "whole", "whole a", "whole a 1200 x", "step_in 3", "step 3", "stepin",
    "go -1",
    "turn 0", "turn ", " turn", "turn\n", "\nturn", "turn;", "turn; ", "undo 1", "begin 1", "keep 1", "drop a",
    "show a",
    "marks 0", "depths 0", "walk", "walk 1 1", "walker 0", "rings 0", "sizes 0", "moments 0", "where 0", "paper k",
    "journal a", "lead", "lead 1", "lead 1 2 3", "lead  1 2", "lead 1  2", "exchange 1", "exchange 1 2 3", "come 1 2",
    "run", "run ", "run  ", "run run", "run run show", "run show; run show", "run ;", "run ; ", "run show;",
    "run show; ",
    "run ; show", "run show;show", "run show ; show", "run show;  show", "run  show", "run show; show;", "Run show",
    "run show; x", "run show\n; show", "run\tshow", "run show; Show", "run show;\nshow", "replay", "eq a", "would turn",
    "run chart a 10;; ; show", "sequence", "x" * 20000, "run " + "show; " * 3999, "go 00", "use", "use a b",
]


def fresh(*commands):
    """A console behind these commands."""
    console = Console()
    for command in commands:
        console.execute(command)
    return console


def all_told(console):
    """All answers about the chosen live chart."""
    return [console.execute(question) for question in QUESTIONS]


class CommandsTest(unittest.TestCase):
    def assert_error(self, console, command, error):
        self.assertEqual(raised_by(self, console.execute, command), error, command)

    def test_it_has_no_public_fields(self):
        console = fresh("chart a 1200", "begin", "go 4")
        self.assertEqual([name for name in vars(console) if not name.startswith("_")], [])
        self.assertEqual([name for name in dir(console) if not name.startswith("_")], ["execute"])

    def test_no_commands(self):
        for console in (Console(), fresh("chart a 1200", "go 1")):
            for command in NO_COMMANDS + NOT_CHARTS + NOT_STRINGS + [
                ["show"], ("show",), b"show", deep("show"), NINETY_DIGITS
            ]:
                self.assert_error(console, command, (InvalidCommand, {}))
            for number in NO_NUMBERS:
                for word in WITH_A_NUMBER:
                    self.assert_error(console, f"{word} {number}", (InvalidCommand, {}))
                for word in ("lead", "exchange"):
                    self.assert_error(console, f"{word} {number} 0", (InvalidCommand, {}))
                    self.assert_error(console, f"{word} 0 {number}", (InvalidCommand, {}))
            for name in NO_NAMES:
                for word in WITH_A_NAME:
                    self.assert_error(console, f"{word} {name}", (InvalidCommand, {}))
                for word in ("chart", "whole"):
                    self.assert_error(console, f"{word} {name} 1200", (InvalidCommand, {}))
            for word in WITHOUT_WORDS + WITH_A_NUMBER + WITH_A_NAME + ["chart", "whole", "lead", "exchange"]:
                for bent in (word.capitalize(), word[:-1], word + "s", " " + word, word + " ", word + "\n", word + ";"):
                    if bent not in ("walk", "walker"):
                        self.assert_error(console, bent, (InvalidCommand, {}))

    def test_a_wrong_command_in_a_run_is_told_first(self):
        console = fresh("chart a 1200")
        for command in NO_COMMANDS:
            if command != "" and "; " not in command and not command.endswith(";"):
                self.assert_error(console, "run leave 9; " + command, (InvalidCommand, {}))
                self.assert_error(console, f"run {command}; leave 9", (InvalidCommand, {}))
        self.assert_error(console, "run leave 9; run show", (InvalidCommand, {}))
        self.assert_error(Console(), "run show; x", (InvalidCommand, {}))
        self.assert_error(Console(), "run chart a 12x; x", (InvalidCommand, {}))
        self.assertEqual(console.execute("where"), "4 0 0")

    def test_names(self):
        console = Console()
        for name in ("a", "z", "abcdefgh", "zzzzzzzz", "run", "chart", "show", "ok"):
            self.assertEqual(console.execute(f"chart {name} 0"), "ok")
            self.assertEqual(console.execute("journal"), f"chart {name} 0")
        self.assertEqual(
            console.execute("run use run; journal; use chart; journal"), "ok; chart run 0; ok; chart chart 0"
        )

    def test_numbers(self):
        console = fresh("chart a 1200")
        self.assertEqual(
            [console.execute("go 0"), console.execute("go 9999"), console.execute("walker")], ["ok", "ok", "0"]
        )
        self.assertEqual(console.execute("walk 1000").split(" "), list("0") + list("120") * 333 + ["1"])
        for number in ("1001", "9999"):
            self.assert_error(console, "walk " + number, (InvalidCount, {}))
        self.assert_error(console, "send 9999", (InvalidPlace, {}))

    def test_texts(self):
        console = Console()
        for text, index in (
            ("13", 2), ("1x", 1), (";", 0), ("10;", 2), ("k;10;0,1", 0), ("00000000000", 10), ("x" * 1000, 0),
            ("1\n", 1),
            ("\t0", 0), ("run", 0), ("0;", 1),
        ):
            for word in ("chart", "whole"):
                self.assert_error(console, f"{word} a {text}", (InvalidText, {"index": index}))
                self.assert_error(console, f"run {word} a {text}; show", (InvalidText, {"index": index}))
                self.assert_error(console, f"run chart a 10; {word} b {text}", (InvalidText, {"index": index}))
        self.assert_error(console, "show", (NotReady, {}))
        # The last semicolon is that between the commands, the one ahead of it belongs to the text.
        self.assert_error(console, "run chart a 10;; show", (InvalidText, {"index": 2}))
        self.assertEqual(console.execute("run chart a 10; show"), "ok; 10")

    def test_nothing_chosen(self):
        for console in (Console(), fresh("chart a 1200", "forget a"), fresh("chart b 10", "chart a 1200", "forget a")):
            for command in WITHOUT_WORDS + [
                "come 0", "leave 0", "lead 0 0", "exchange 0 0", "stepin 0", "go 0", "send 0"
            ]:
                self.assert_error(console, command, (NotReady, {}))
            for command in (
                "walk 5", "walk 1001", "twin a", "same a", "same b", "use a", "forget a", "use x", "forget x"
            ):
                self.assert_error(console, command, (NotReady, {}))

    def test_no_live_chart_by_the_name(self):
        console = fresh("chart a 1200")
        for command in ("use b", "forget b", "same b", "run use b", "run chart c 0; forget b"):
            self.assert_error(console, command, (NotReady, {}))
        self.assertEqual(console.execute("show"), "1200")
        self.assert_error(console, "use c", (NotReady, {}))

    def test_whole_ones(self):
        console = fresh("chart b 10")
        self.assert_error(console, "whole a 012", (NotWhole, {"pieces": ((0,), (1,), (2,))}))
        self.assert_error(console, "use a", (NotReady, {}))
        self.assertEqual(console.execute("run whole a 1200; journal; turn; show"), "ok; whole a 1200; ok; 2010")
        self.assert_error(console, "come 4", (NotWhole, {"pieces": ((0, 1, 2, 3), (4,))}))
        self.assert_error(console, "lead 3 3", (NotWhole, {"pieces": ((0, 1, 2), (3,))}))
        self.assertEqual(console.execute("journal"), "whole a 1200; turn")

    def test_errors_of_the_methods(self):
        console = fresh("chart a 1200")
        for command, error in (
            ("come 6", InvalidPlace), ("leave 4", InvalidPlace), ("lead 4 0", InvalidPlace), ("lead 0 4", InvalidPlace),
            ("exchange 1 1", InvalidPlace), ("stepin 4", InvalidPlace), ("send 4", InvalidPlace), ("lead 0 1", Refused),
            ("exchange 2 3", Refused), ("undo", NothingToUndo), ("walk 1001", InvalidCount),
        ):
            self.assert_error(console, command, (error, {}))
            self.assert_error(console, "run come 0; leave 4; begin; " + command, (error, {}))
        for command in ("keep", "drop", "run begin; keep; keep", "run begin; drop; drop"):
            self.assert_error(console, command, (NoSpan, {}))
        self.assertEqual(console.execute("where"), "4 0 0")
        for command in ("come 0", "come 10", "stepin 9"):
            self.assert_error(fresh("chart a 0000000000"), command, (TooMany, {"count": 10}))


class AnswersTest(unittest.TestCase):
    def test_deeds(self):
        console = fresh("chart a 1200")
        for command, answer in (
            ("come 1", "4"), ("stepin 3", "5"), ("come 6", "6"), ("lead 6 0", "ok"), ("exchange 6 4", "ok"),
            ("turn", "ok"),
            ("go 4", "ok"), ("send 5", "ok"), ("leave 2", "ok"), ("marks", "0 1 3 4 5 6"), ("walker", "5"),
            ("where", "6 9 0"),
        ):
            self.assertEqual(console.execute(command), answer, command)
        journal = "chart a 1200; come 1; stepin 3; come 6; lead 6 0; exchange 6 4; turn; go 4; send 5; leave 2"
        self.assertEqual(console.execute("journal"), journal)
        for command in journal.split("; ")[:0:-1]:
            self.assertEqual(console.execute("undo"), command)
        self.assertEqual(raised_by(self, console.execute, "undo"), (NothingToUndo, {}))

    def test_questions(self):
        console = fresh("chart a 1200", "come 3", "leave 0", "send 4")
        self.assertEqual(
            [console.execute("show"), console.execute("marks"), console.execute("depths")],
            ["1002", "1 2 3 4", "0 0 1 2"]
        )
        self.assertEqual(
            [console.execute("walk 0"), console.execute("walk 4"), console.execute("walker")], ["4", "4 3 1 2 1", "4"]
        )
        self.assertEqual([console.execute("rings"), console.execute("sizes")], ["1-2", "1/3/1 1/3/2 1/2/2 1/2/2"])
        self.assertEqual([console.execute("moments"), console.execute("where")], ["0 1 2=3", "4 3 0"])
        self.assertEqual(
            [console.execute("paper"), console.execute("journal")],
            ["k;1002;03,12", "chart a 1200; come 3; leave 0; send 4"]
        )
        console = fresh("chart a 0")
        self.assertEqual(
            all_told(console),
            ["0", "0", "0"] + [" ".join("0" * 10)] + ["0", "0", "1/1/0", "0", "1 0 0", "k;0;0", "chart a 0"]
        )
        console = fresh("chart zz 021345")
        self.assertEqual(
            [console.execute("rings"), console.execute("sizes"), console.execute("moments")],
            ["0 1-2 3 4 5", "5/2/0", "0"]
        )

    def test_spans(self):
        console = fresh("chart a 1200")
        self.assertEqual(
            console.execute("run begin; go 1; begin; come 0; where; drop; where"), "ok; ok; ok; 4; 5 2 2; ok; 4 1 1"
        )
        self.assertEqual(
            console.execute("run undo; begin; go 2; keep; where; drop; where"), "go 1; ok; ok; ok; 4 1 1; ok; 4 0 0"
        )
        self.assertEqual(raised_by(self, console.execute, "run begin; undo"), (NothingToUndo, {}))
        self.assertEqual(console.execute("where"), "4 0 0")

    def test_names_that_are_taken_anew(self):
        console = fresh("chart a 1200", "go 1", "begin", "chart a 10")
        self.assertEqual([console.execute("show"), console.execute("where")], ["10", "2 0 0"])
        self.assertEqual(console.execute("run chart b 0; forget a; show"), "ok; ok; 0")
        self.assertEqual(raised_by(self, console.execute, "use a"), (NotReady, {}))
        self.assertEqual(console.execute("run whole a 00; journal; use b; journal"), "ok; whole a 00; ok; chart b 0")
        self.assertEqual(console.execute("run forget b; use a; show"), "ok; ok; 00")

    def test_twins(self):
        console = fresh("chart a 1200", "go 1", "begin", "stepin 3")
        self.assertEqual(console.execute("run twin b; where; same b; same a"), "ok; 5 2 1; yes; yes")
        self.assertEqual(console.execute("run go 1; same b; use b; where; walker; same a"), "ok; no; ok; 5 2 0; 1; no")
        self.assertEqual(console.execute("journal"), "chart b 1200; go 1; stepin 3")
        self.assertEqual(console.execute("run use a; journal"), "ok; chart a 1200; go 1; stepin 3; go 1")
        # By its own name: the twin is chosen, and has no span.
        self.assertEqual(
            console.execute("run where; twin a; where; undo; undo; undo"), "5 3 1; ok; 5 3 0; go 1; stepin 3; go 1"
        )
        self.assertEqual(console.execute("run use b; show; where"), "ok; 12040; 5 2 0")
        # In the place of one that stood there.
        self.assertEqual(console.execute("run chart c 0; twin b; same b; use b; show"), "ok; ok; yes; ok; 0")

    def test_same(self):
        console = fresh("chart a 1200", "whole b 1200", "chart c 1200")
        self.assertEqual(
            console.execute("run same a; same b; same c; use b; same a; same b"), "yes; no; yes; ok; no; yes"
        )
        self.assertEqual(
            console.execute("run use a; begin; same c; go 0; same c; undo; same c"), "ok; ok; yes; ok; no; go 0; yes"
        )

    def test_use_and_forget(self):
        console = fresh("chart a 1200", "chart b 10")
        self.assertEqual(console.execute("run use a; show; use a; show; use b; show"), "ok; 1200; ok; 1200; ok; 10")
        self.assertEqual(console.execute("run forget a; show"), "ok; 10")
        self.assertEqual(console.execute("forget b"), "ok")
        self.assertEqual(raised_by(self, console.execute, "show"), (NotReady, {}))

    def test_consoles_are_independent(self):
        one, other = fresh("chart a 1200"), Console()
        self.assertEqual(raised_by(self, other.execute, "use a"), (NotReady, {}))
        other.execute("chart a 10")
        self.assertEqual([one.execute("show"), other.execute("show")], ["1200", "10"])

    def test_argument_by_name(self):
        self.assertEqual(Console().execute(command="chart a 1200"), "ok")


class RunsTest(unittest.TestCase):
    def assert_taken_back(self, console, command, error):
        """That the run raises the error, and that all is as before: names, choice, spans and answers."""
        before = all_told(console)
        self.assertEqual(raised_by(self, console.execute, command), error, command)
        self.assertEqual(all_told(console), before, command)

    def test_a_run_of_one_command(self):
        self.assertEqual(Console().execute("run chart a 1200"), "ok")
        self.assertEqual(fresh("chart a 1200").execute("run show"), "1200")
        self.assertEqual(raised_by(self, Console().execute, "run show"), (NotReady, {}))

    def test_a_last_command_that_raises(self):
        for command, error in (
            ("leave 9", (InvalidPlace, {})), ("keep", (NoSpan, {})), ("drop", (NoSpan, {})),
            ("lead 0 1", (Refused, {})),
            ("use q", (NotReady, {})), ("same q", (NotReady, {})), ("chart q 13", (InvalidText, {"index": 2})),
            ("walk 1001", (InvalidCount, {})), ("whole q 01", (NotWhole, {"pieces": ((0,), (1,))})),
        ):
            for ahead in (
                "go 1", "come 0", "send 3; leave 2; undo", "chart b 10; go 2; use a", "twin b; use b", "begin; keep"
            ):
                console = fresh("chart a 1200", "go 1")
                self.assert_taken_back(console, f"run {ahead}; {command}", error)
                self.assertEqual(raised_by(self, console.execute, "use b"), (NotReady, {}))

    def test_names_choice_and_spans_are_taken_back(self):
        console = fresh("chart b 10", "chart a 1200", "begin", "go 1", "begin", "come 0")
        for ahead in (
            "keep; keep", "drop; drop", "undo; drop", "begin; go 1; begin", "forget a", "forget b",
            "use b; begin; go 1",
            "chart a 0; begin", "twin a; undo; undo", "twin b; use b; undo", "chart c 0; forget a; forget b",
            "drop; keep; undo; twin a",
            "use b; forget a; chart a 1200; go 1; come 0",
        ):
            self.assert_taken_back(console, f"run {ahead}; use q", (NotReady, {}))
            self.assertEqual(raised_by(self, console.execute, "use c"), (NotReady, {}))
            self.assertEqual(console.execute("run use b; show; where; use a; where"), "ok; 10; 2 0 0; ok; 5 2 2")
        self.assertEqual(console.execute("run undo; drop; undo; drop; show"), "come 0; ok; go 1; ok; 1200")

    def test_a_run_without_a_choice_is_taken_back(self):
        console = fresh("chart b 10", "forget b")
        self.assertEqual(raised_by(self, console.execute, "run chart a 1200; go 1; leave 9"), (InvalidPlace, {}))
        self.assertEqual(raised_by(self, console.execute, "show"), (NotReady, {}))
        self.assertEqual(raised_by(self, console.execute, "use a"), (NotReady, {}))

    def test_it_goes_on_behind_a_run_that_raised(self):
        console = fresh("chart a 1200")
        self.assertEqual(raised_by(self, console.execute, "run come 0; come 9"), (InvalidPlace, {}))
        self.assertEqual([console.execute("come 0"), console.execute("journal")], ["4", "chart a 1200; come 0"])

    def test_a_single_command_that_raises_changes_nothing(self):
        console = fresh("chart a 1200", "begin", "go 1")
        for command in (
            "chart b 13", "whole a 01", "chart a x", "leave 9", "walk 1001", "use q", "forget q", "same q", "lead 1 2"
        ):
            before = all_told(console)
            with self.assertRaises(ValueError):
                console.execute(command)
            self.assertEqual(all_told(console), before, command)

    def assert_alike(self, console, plain, command):
        """That both answer the same, or raise the same error."""
        try:
            wanted = plain.execute(command)
        except ValueError as error:
            self.assertEqual(raised_by(self, console.execute, command), state_of(error), command)
        else:
            self.assertEqual(console.execute(command), wanted, command)

    def test_drawn_commands(self):
        names = ["a", "b", "c", "longname"]
        texts = ["1200", "0", "10", "01", "120010", "0000000000", "1234567890", "13", "x", "10;", "3333", "0123"]
        for seed in range(60):
            draw = Draw(seed + 9000)
            console, plain = Console(), PlainConsole()
            for _ in range(60):
                count = 1 + draw.below(5) if draw.below(3) == 0 else 0
                commands = [drawn_command(draw, names, texts) for _ in range(max(count, 1))]
                command = "run " * (count > 0) + "; ".join(commands)
                self.assert_alike(console, plain, command)

    def test_drawn_commands_that_are_mostly_let(self):
        for seed, chart in enumerate(LARGE_CHARTS):
            draw = Draw(seed + 400)
            console, plain = Console(), PlainConsole()
            console.execute(f"chart a {''.join(map(str, chart))}")
            plain.execute(f"chart a {''.join(map(str, chart))}")
            done = 0
            while done < 40:
                command = drawn_command(draw, ["a", "b"], ["1200"])
                if command.startswith(("chart", "whole", "use", "forget")):
                    continue
                done += 1
                self.assert_alike(console, plain, command)

    def test_runs_of_64_commands_in_time(self):
        console = Console()
        for number, chart in enumerate(CHARTS_OF_TEN[:8]):
            text = "".join(map(str, chart))
            commands = [f"chart {'abcdefgh'[number]} {text}"] + ["begin", "go 7", "send 3", "go 9999", "go 1"] * 12
            told_in_time(self, console.execute, "run " + "; ".join(commands[:61] + ["sizes", "moments", "where"]))
            self.assertEqual(console.execute("where"), "10 48 12")
            told_in_time(self, console.execute, "run " + "; ".join(["go 5"] * 12 + ["moments"] * 26 + ["sizes"] * 26))
        for question in QUESTIONS:
            told_in_time(self, console.execute, "run " + "; ".join([question] * 64))
        self.assertEqual(console.execute("where"), "10 60 12")
        found = told_in_time(
            self, raised_by, self, console.execute, "run " + "; ".join(["drop"] * 12 + ["twin a"] * 51 + ["use z"])
        )
        self.assertEqual(found, (NotReady, {}))
        self.assertEqual(console.execute("where"), "10 60 12")


if __name__ == "__main__":
    unittest.main()
