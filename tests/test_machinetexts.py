"""[7] a machine's text, and how it is read."""

import random
import unittest

from cutrestore.errors import BadDeed, BadMachine, NoText
from cutrestore.machines import Machine
from cutrestore.machinetexts import machine_text, read_machine
from things import WRONG_THINGS, random_machine

SIXTY = 10 ** 60 - 1
ALL_DEEDS = [
    ("set", 0, ("is", -5)), ("add", 1, ("number", 3)), ("times", 2, ("letter",)), ("put", ("way",)), ("drop",),
    ("send", 12, ("first",)), ("say", ("number", 0)), ("skip", ("number", 1), ("number", 2), 24),
]
ALL_TEXT = (
    "9; 1 2 3 4; 5 6 0; set 0 -5; add 1 n3; times 2 letter; put way; drop; send 12 first; say n0; skip n1 n2 24"
)
TEXTS = [
    (Machine(7, [1, 0], [], []), "7; 1 0; "),
    (Machine(7, [1, 0], [3], []), "7; 1 0; 3"),
    (Machine(7, [0], [], [("drop",)]), "7; 0; ; drop"),
    (Machine(10 ** 12, [10 ** 12 - 1], [0] * 12, []), "1000000000000; 999999999999; 0 0 0 0 0 0 0 0 0 0 0 0"),
    (Machine(9, [1, 2, 3, 4], [5, 6, 0], ALL_DEEDS), ALL_TEXT),
    (Machine(2, [0], [], [("say", ("is", SIXTY)), ("say", ("is", -SIXTY))]), f"2; 0; ; say {SIXTY}; say -{SIXTY}"),
    (Machine(2, [0], [], [("send", SIXTY, ("is", 0))]), f"2; 0; ; send {SIXTY} 0"),
    (Machine(7, [1, 0], [], [("drop",)] * 24), "7; 1 0; " + "; drop" * 24),
]
DOCUMENT_S = "7; 1 0; ; add 0 letter; skip n0 3 1; send 0 n0; say first"


class WrittenTest(unittest.TestCase):
    def test_texts(self):
        for machine, text in TEXTS:
            self.assertEqual(machine_text(machine), text)

    def test_the_document_s(self):
        deeds = [
            ("add", 0, ("letter",)), ("skip", ("number", 0), ("is", 3), 1), ("send", 0, ("number", 0)),
            ("say", ("first",)),
        ]
        self.assertEqual(machine_text(Machine(7, [1, 0], [], deeds)), DOCUMENT_S)


class ReadTest(unittest.TestCase):
    def refused(self, text):
        with self.subTest(repr(text)), self.assertRaises(NoText):
            read_machine(text)

    def bad(self, text):
        with self.subTest(text), self.assertRaises(BadMachine):
            read_machine(text)

    def bad_at(self, text, at):
        with self.subTest(text), self.assertRaises(BadDeed) as told:
            read_machine(text)
        self.assertEqual(told.exception.at, at)

    def test_what_is_read(self):
        for machine, text in TEXTS:
            read = read_machine(text)
            self.assertIsInstance(read, Machine)
            self.assertEqual(read.modulus(), machine.modulus())
            self.assertEqual(read.first_state(), machine.first_state())
            self.assertEqual(read.deeds(), machine.deeds())
            self.assertEqual(machine_text(read), text)

    def test_many_machines(self):
        chance = random.Random(7)
        for turn in range(200):
            machine = random_machine(chance)
            read = read_machine(machine_text(machine))
            told = (read.modulus(), read.first_state(), read.deeds())
            self.assertEqual(told, (machine.modulus(), machine.first_state(), machine.deeds()))

    def test_what_is_read_works(self):
        read = read_machine(DOCUMENT_S)
        self.assertEqual(read.worked(read.first_state(), 0, 2), (((3, 0), ()), [(0, 3)], [0]))

    def test_things_that_are_no_text(self):
        for thing in WRONG_THINGS:
            if thing != "7; 1 0; ":
                self.refused(thing)

    def test_signs_too_many_or_too_few(self):
        for text in ("7; 1 0; ", "7; 1 0; 3", DOCUMENT_S, ALL_TEXT):
            for more in (text + ";", text + "; ", ";" + text, " " + text, text + "\n", "\n" + text, text + "\t"):
                self.refused(more)
        for text in (DOCUMENT_S, ALL_TEXT, "7; 1 0; 3"):
            self.refused(text + " ")
        for text in ("", " ", ";", "; ", "; ; ", "7", "7;", "7; ", "7; 1 0", "7; 1 0;", "7; 1 0;  ", "7 ; 1 0; "):
            self.refused(text)
        for text in ("7;1 0; ", "7; 1 0;3", "7;; 1 0; ", "7; ; ", "7; ; 3", "; 1; ", "7, 1 0, ", "7; 1,0; "):
            self.refused(text)

    def test_each_sign_left_out_or_changed(self):
        for text in (DOCUMENT_S, ALL_TEXT):
            for at in range(len(text)):
                for other in ("", " ", ";", "\n", "\t", "+", "_", ".", "x", text[at] * 2):
                    self.read_or_refused(text[:at] + other + text[at + 1:])

    def read_or_refused(self, text):
        try:
            read = read_machine(text)
        except (NoText, BadMachine, BadDeed):
            return
        self.assertEqual(machine_text(read), text)

    def test_blanks(self):
        for text in ("7; 1  0; ", "7;  1 0; ", "7; 1 0 ; ", "7; 1 0;  3", "7; 1 0; 3  4", "7; 1 0; 3 ; drop"):
            self.refused(text)
        for deed in ("drop ", " drop", "put  n0", "say\tn0", "put n0 ", " put n0", "skip n0  3 1", ""):
            self.refused("7; 1 0; ; " + deed)
            self.refused("7; 1 0; ; " + deed + "; drop")

    def test_numbers(self):
        wrong = ["", "-", "+1", "01", "00", "-0", "-01", "--1", "1-", "1_0", "1.0", "1e3", "0x1", "a", "n0", "True"]
        wrong += ["\u0661", "\u00b2", "1\n", " 1", "- 1", "letter"]
        for number in wrong:
            self.refused(number + "; 1 0; ")
            self.refused("7; 1 " + number + "; ")
            self.refused("7; 1 0; 3 " + number)
            self.refused("7; 1 0; ; set " + number + " 1")
            self.refused("7; 1 0; ; send " + number + " 1")
            self.refused("7; 1 0; ; skip n0 n1 " + number)

    def test_values(self):
        wrong = ["", "-", "+1", "01", "-0", "n", "n4", "n5", "n-1", "n00", "n01", "n10", "N0", "n 0", "letters", "Way"]
        wrong += ["is 1", "number 0", "first ", "row", "drop", "None", "(1)"]
        for value in wrong:
            for deed in ("set 0 ", "add 0 ", "times 0 ", "put ", "send 0 ", "say ", "skip 0 "):
                self.refused("7; 1 0; ; " + deed + value + (" 1" if deed == "skip 0 " else ""))
            self.refused("7; 1 0; ; skip " + value + " 0 1")

    def test_deeds(self):
        wrong = ["set", "set 0", "set 0 1 2", "add 0", "times 0", "put", "put 1 2", "drop 1", "drop 0", "send", "send 0"]
        wrong += ["send 0 1 2", "say", "say 1 2", "skip", "skip 1 2", "skip 1 2 3 4", "Drop", "jump", "DROP", "drops"]
        wrong += ["set n0 1", "send letter 1", "skip 1 2 n0", "1", "letter", "drop, drop"]
        for deed in wrong:
            self.refused("7; 1 0; ; " + deed)
            self.refused("7; 1 0; ; drop; " + deed + "; drop")

    def test_bad_machines(self):
        for text in ("1; 0; ", "0; 0; ", "-7; 0; ", "1000000000001; 0; ", f"{SIXTY}; 0; ", f"-{SIXTY}; 0; "):
            self.bad(text)
        for text in ("7; 7; ", "7; -1; ", "7; 0 0 0 0 0; ", "7; 0; 7", "7; 0; -1", "7; 0; " + "0 " * 12 + "0"):
            self.bad(text)

    def test_bad_deeds(self):
        self.bad_at("7; 1 0; ; set 2 1", 0)
        self.bad_at("7; 1 0; ; drop; set -1 1", 1)
        self.bad_at("7; 1 0; ; drop; drop; say n2", 2)
        self.bad_at("7; 1; ; send -1 1", 0)
        self.bad_at("7; 1; ; skip 1 1 0; skip 1 1 1", 0)
        self.bad_at("7; 1; ; skip 1 1 24; skip 1 1 25", 1)
        self.bad_at("7; 1; ; skip n1 1 24", 0)
        self.bad_at("7; 1; " + "; drop" * 25, 24)
        self.bad_at("7; 1; " + "; drop" * 30 + "; say n3", 24)
        self.bad_at("7; 1; ; drop; say n3" + "; drop" * 30, 1)

    def test_the_order_of_refusals(self):
        self.refused("1; 0; ; jump")
        self.refused("7; 0; ; set 9 9; jump")
        self.refused("7; 0; " + "; drop" * 30 + "; jump")
        self.refused("1; 0; 01")
        self.bad("1; 0; ; set 9 9")
        self.bad("7; 9; ; say n3")
        self.bad("7; 0; 9" + "; drop" * 30)


if __name__ == "__main__":
    unittest.main()
