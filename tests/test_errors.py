"""Point [5]: the error classes."""

import unittest

from everynext import errors

WITH_A_STRING = [
    "InvalidChart", "InvalidPlace", "InvalidLot", "InvalidRow", "InvalidCount", "InvalidCode", "InvalidWishes",
    "InvalidParts", "InvalidLots", "InvalidTree", "InvalidLengths", "InvalidFit", "InvalidClues", "InvalidCommand",
    "InvalidPaper", "Refused", "NothingToUndo", "NoSpan", "NotReady",
]
WITH_A_FIELD = [
    ("InvalidText", "index"), ("InvalidDeeds", "index"), ("TooMany", "count"), ("NotShown", "count"),
    ("NotAlike", "code"), ("NotKeeping", "place"), ("NoRoot", "length"), ("NotAlong", "place"), ("NotKept", "place"),
    ("NotForest", "ring"), ("NoFit", "ring"), ("Clash", "clues"), ("NotWhole", "pieces"),
]
NAMES = WITH_A_STRING + [name for name, _ in WITH_A_FIELD]


class ErrorsTest(unittest.TestCase):
    def test_next_error_is_a_value_error(self):
        self.assertEqual(errors.NextError.__bases__, (ValueError,))

    def test_all_others_are_directly_under_it(self):
        for name in NAMES:
            self.assertEqual(getattr(errors, name).__bases__, (errors.NextError,), name)

    def test_there_are_just_these(self):
        found = [name for name, value in vars(errors).items() if isinstance(value, type)]
        self.assertEqual(sorted(found), sorted(NAMES + ["NextError"]))

    def test_those_of_one_string(self):
        for name in WITH_A_STRING:
            with self.assertRaises(getattr(errors, name)) as caught:
                raise getattr(errors, name)("why")
            self.assertEqual(vars(caught.exception), {}, name)

    def test_a_field_keeps_the_very_value(self):
        for name, field in WITH_A_FIELD:
            for value in [3, -1, 10 ** 89, "ab", None, True, (), ((),), [1, [2]], []]:
                by_position = getattr(errors, name)(value)
                by_name = getattr(errors, name)(**{field: value})
                self.assertIs(getattr(by_position, field), value, name)
                self.assertIs(getattr(by_name, field), value, name)
                self.assertEqual(list(vars(by_position)), [field], name)

    def test_a_list_in_a_field_stays_the_caller_s(self):
        for name, field in WITH_A_FIELD:
            value = [1]
            error = getattr(errors, name)(value)
            value.append(2)
            self.assertEqual(getattr(error, field), [1, 2], name)

    def test_a_field_must_be_told(self):
        for name, field in WITH_A_FIELD:
            with self.assertRaises(TypeError, msg=name):
                getattr(errors, name)()
            with self.assertRaises(TypeError, msg=name):
                getattr(errors, name)(**{field + "s": 1})

    def test_they_are_caught_as_what_they_are_under(self):
        for name, _ in WITH_A_FIELD:
            for wider in (errors.NextError, ValueError):
                with self.assertRaises(wider, msg=name):
                    raise getattr(errors, name)(1)


if __name__ == "__main__":
    unittest.main()
