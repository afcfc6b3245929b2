"""[5] values."""

import unittest

from cutrestore.values import is_value, worth_of
from things import WRONG_THINGS

SIXTY = 10 ** 60 - 1
STATE = ((3, 1, 4, 6), (5, 2))
BARE = ((3,), ())


class WorthTest(unittest.TestCase):
    def worth(self, value, state=STATE, way=0, said=0, modulus=7):
        return worth_of(value, state, way, said, modulus)

    def test_is(self):
        for number, worth in [(0, 0), (6, 6), (7, 0), (9, 2), (-1, 6), (-7, 0), (-9, 5)]:
            self.assertEqual(self.worth(("is", number)), worth)

    def test_number(self):
        self.assertEqual([self.worth(("number", i)) for i in range(4)], [3, 1, 4, 6])
        self.assertEqual(self.worth(("number", 0), BARE), 3)

    def test_letter(self):
        for said, worth in [(0, 0), (5, 5), (7, 0), (23, 2), (-1, 6), (-15, 6)]:
            self.assertEqual(self.worth(("letter",), said=said), worth)

    def test_way(self):
        self.assertEqual([self.worth(("way",), way=way) for way in range(10)], [0, 1, 2, 3, 4, 5, 6, 0, 1, 2])
        self.assertEqual(self.worth(("way",), way=3, modulus=2), 1)

    def test_first(self):
        self.assertEqual(self.worth(("first",)), 5)
        self.assertEqual(self.worth(("first",), BARE), 0)
        self.assertEqual(self.worth(("first",), ((1,), (0, 3))), 0)

    def test_numbers_of_sixty_figures(self):
        for modulus in (2, 7, 10 ** 12 - 11, 10 ** 12):
            for number in (SIXTY, -SIXTY):
                worth = number - modulus * (number // modulus)
                self.assertEqual(self.worth(("is", number), modulus=modulus), worth)
                self.assertEqual(self.worth(("letter",), said=number, modulus=modulus), worth)
        self.assertEqual(self.worth(("is", SIXTY), modulus=10 ** 12), 10 ** 12 - 1)
        self.assertEqual(self.worth(("is", -SIXTY), modulus=10 ** 12), 1)

    def test_told_from_0_and_below_the_modulus(self):
        values = [("is", -1), ("is", 12), ("number", 3), ("letter",), ("way",), ("first",)]
        for modulus in (2, 3, 5, 10 ** 12):
            for value in values:
                worth = self.worth(value, way=9, said=-SIXTY, modulus=modulus)
                self.assertIn(worth, range(modulus))


class IsValueTest(unittest.TestCase):
    def test_each_sort(self):
        for value in [("is", 0), ("is", -5), ("is", SIXTY), ("is", -SIXTY), ("letter",), ("way",), ("first",)]:
            self.assertIs(is_value(value, 1), True)

    def test_a_number_of_the_state(self):
        for many in range(1, 5):
            told = [is_value(("number", i), many) for i in range(-2, 6)]
            self.assertEqual(told, [0 <= i < many for i in range(-2, 6)])

    def test_anything_else(self):
        for thing in WRONG_THINGS:
            with self.subTest(repr(thing)):
                self.assertIs(is_value(thing, 4), False)

    def test_deeds_are_none(self):
        for thing in [("drop",), ("put", ("letter",)), ("say", ("is", 1)), ("set", 0, ("is", 1)), ("send", 0)]:
            self.assertIs(is_value(thing, 4), False)


if __name__ == "__main__":
    unittest.main()
