"""Refusals: the interface's row of cutrestore.errors."""

import unittest

from cutrestore import errors

PLAIN = [
    "BadMachine", "NoText", "BadNet", "NoCount", "NoEvent", "TooMany", "NoMachine",
    "Busy", "NoMark", "NoRow", "NoName", "NoDeed",
]
WITH_VALUES = {
    "BadDeed": {"at": 3},
    "NoLetter": {"at": 0},
    "NotFirst": {"at": 17},
    "Orphaned": {"letter": (1, 2)},
    "NoLine": {"falls": [(0, 2, 1, (0, 0))], "letter": (1, 0)},
    "NotRow": {"way": 4},
    "NotReached": {"machine": 2},
}


class ErrorsTest(unittest.TestCase):
    def test_net_error_is_a_value_error(self):
        self.assertEqual(errors.NetError.__bases__, (ValueError,))

    def test_each_stands_straight_under_net_error(self):
        for name in PLAIN + list(WITH_VALUES):
            with self.subTest(name):
                self.assertEqual(getattr(errors, name).__bases__, (errors.NetError,))

    def test_there_are_no_others(self):
        classes = [name for name, thing in vars(errors).items() if isinstance(thing, type)]
        self.assertEqual(sorted(classes), sorted(["NetError"] + PLAIN + list(WITH_VALUES)))

    def test_plain_ones_are_made_of_nothing_and_of_a_text(self):
        for name in ["NetError"] + PLAIN:
            with self.subTest(name):
                made = getattr(errors, name)
                self.assertIsInstance(made(), errors.NetError)
                self.assertEqual(str(made("some words")), "some words")

    def test_others_are_made_of_their_values_and_have_them(self):
        for name, values in WITH_VALUES.items():
            with self.subTest(name):
                error = getattr(errors, name)(*values.values())
                self.assertIsInstance(error, errors.NetError)
                for key, value in values.items():
                    self.assertEqual(getattr(error, key), value)

    def test_others_are_not_made_of_nothing(self):
        for name in WITH_VALUES:
            with self.subTest(name):
                with self.assertRaises(TypeError):
                    getattr(errors, name)()

    def test_no_line_does_not_keep_the_list_handed_in(self):
        falls = [(0, 2, 1, (0, 0))]
        error = errors.NoLine(falls, (1, 0))
        falls.append("more")
        self.assertEqual(error.falls, [(0, 2, 1, (0, 0))])


if __name__ == "__main__":
    unittest.main()
