"""[6] deeds."""

import unittest

from cutrestore.deeds import is_deed
from things import WRONG_THINGS

V = ("number", 1)
W = ("is", -3)
DEEDS = [
    ("set", 0, V), ("add", 1, W), ("times", 1, ("letter",)), ("put", V), ("drop",), ("send", 0, V), ("say", W),
    ("skip", V, W, 1),
]


class IsDeedTest(unittest.TestCase):
    def test_each_sort(self):
        for deed in DEEDS:
            with self.subTest(deed):
                self.assertIs(is_deed(deed, 2), True)

    def test_each_sort_of_value_at_each_place(self):
        for value in [("is", 0), ("is", -10 ** 59), ("number", 0), ("number", 1), ("letter",), ("way",), ("first",)]:
            for deed in with_value(value):
                with self.subTest(deed):
                    self.assertIs(is_deed(deed, 2), True)

    def test_what_is_no_value_at_each_place(self):
        for thing in WRONG_THINGS + [("number", 2), ("drop",)]:
            for deed in with_value(thing):
                with self.subTest(repr(deed)):
                    self.assertIs(is_deed(deed, 2), False)

    def test_the_number_that_is_changed(self):
        for word in ("set", "add", "times"):
            for many in range(1, 5):
                told = [is_deed((word, i, W), many) for i in range(-2, 6)]
                self.assertEqual(told, [0 <= i < many for i in range(-2, 6)])
            for wrong in (True, False, None, "0", (0,), [0], ("number", 0), 10 ** 59):
                self.assertIs(is_deed((word, wrong, W), 4), False)

    def test_the_way_out(self):
        told = [is_deed(("send", j, W), 1) for j in (-10 ** 59, -1, 0, 1, 9, 10, 25, 10 ** 59)]
        self.assertEqual(told, [False, False, True, True, True, True, True, True])
        for wrong in (True, False, None, "0", (0,), [0], ("way",)):
            self.assertIs(is_deed(("send", wrong, W), 4), False)

    def test_how_many_are_skipped(self):
        told = [is_deed(("skip", V, W, k), 2) for k in (-1, 0, 1, 2, 23, 24, 25, 10 ** 59)]
        self.assertEqual(told, [False, False, True, True, True, True, False, False])
        for wrong in (True, False, None, "1", (1,), [1], ("is", 1)):
            self.assertIs(is_deed(("skip", V, W, wrong), 2), False)

    def test_too_short_too_long_a_list_another_word(self):
        for deed in DEEDS:
            wrong = [deed[:-1], deed + (1,), deed + (W,), list(deed), (deed,), [deed]]
            wrong += [(deed[0].upper(),) + deed[1:], (deed[0] + " ",) + deed[1:], (deed[0].encode(),) + deed[1:]]
            wrong += [(None,) + deed[1:], ([],) + deed[1:], ("skap",) + deed[1:], (V,) + deed[1:]]
            for thing in wrong:
                with self.subTest(repr(thing)):
                    self.assertIs(is_deed(thing, 2), False)

    def test_anything_else(self):
        for thing in WRONG_THINGS:
            with self.subTest(repr(thing)):
                self.assertIs(is_deed(thing, 4), False)

    def test_values_are_none(self):
        for thing in [V, W, ("letter",), ("way",), ("first",)]:
            self.assertIs(is_deed(thing, 4), False)


def with_value(thing):
    return [
        ("set", 0, thing), ("add", 0, thing), ("times", 0, thing), ("put", thing), ("send", 0, thing), ("say", thing),
        ("skip", thing, W, 1), ("skip", W, thing, 1),
    ]


if __name__ == "__main__":
    unittest.main()
