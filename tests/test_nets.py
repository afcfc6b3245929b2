"""[8] nets."""

import unittest

from cutrestore.errors import BadNet, NoMachine
from cutrestore.machines import Machine
from cutrestore.nets import Net
from things import WRONG_THINGS, copied, counter

TOP = 10 ** 60 - 1
ONE = counter()


class NetTest(unittest.TestCase):
    def refused(self, machines, ways, letters):
        with self.assertRaises(BadNet):
            Net(machines, ways, letters)

    def test_what_it_tells(self):
        machines = [counter(7), counter(9)]
        ways = [(0, 1, "row"), (1, 0, "heap"), (1, 1, "row")]
        net = Net(machines, ways, [(1, 5), (0, -5)])
        self.assertEqual(net.ways(), ways)
        self.assertEqual(net.letters(), [(1, 5), (0, -5)])
        for told in (net.machines(), net.ways(), net.letters(), net.ways_in(0), net.ways_out(0)):
            self.assertIsInstance(told, list)

    def test_machines_are_told_themselves(self):
        machines = [counter(7), counter(9), counter(7)]
        told = Net(machines, [], []).machines()
        self.assertEqual(len(told), 3)
        for one, other in zip(machines, told):
            self.assertIs(one, other)

    def test_one_machine_at_several_places(self):
        told = Net([ONE] * 5, [(0, 4, "row")], []).machines()
        self.assertEqual([machine is ONE for machine in told], [True] * 5)

    def test_how_many_machines(self):
        for many in (1, 5):
            self.assertEqual(len(Net([ONE] * many, [], []).machines()), many)
        for many in (0, 6, 7):
            self.refused([ONE] * many, [], [])

    def test_how_many_ways(self):
        for many in (0, 1, 10):
            self.assertEqual(Net([ONE], [(0, 0, "row")] * many, []).ways(), [(0, 0, "row")] * many)
        self.refused([ONE], [(0, 0, "row")] * 11, [])

    def test_how_many_letters(self):
        for many in (0, 1, 20):
            self.assertEqual(Net([ONE], [(0, 0, "row")], [(0, 1)] * many).letters(), [(0, 1)] * many)
        self.refused([ONE], [(0, 0, "row")], [(0, 1)] * 21)

    def test_what_a_letter_says(self):
        for said in (0, 1, -1, TOP, -TOP):
            self.assertEqual(Net([ONE], [(0, 0, "row")], [(0, said)]).letters(), [(0, said)])
        for said in (TOP + 1, -TOP - 1, 10 * TOP, -10 * TOP):
            self.refused([ONE], [(0, 0, "row")], [(0, said)])

    def test_what_is_no_machine(self):
        for thing in WRONG_THINGS + [Machine, Net([ONE], [], []), (7, [0], [], [])]:
            self.refused([thing], [], [])
            self.refused([ONE, thing], [], [])

    def test_what_is_no_way(self):
        wrong = WRONG_THINGS + [
            (0, 2, "row"), (2, 0, "row"), (-1, 0, "row"), (0, -1, "row"), (0, 10 ** 59, "heap"), (0, 0), (0, 0, "row", 0),
            (0, 0, "Row"), (0, 0, "rows"), (0, 0, ""), (0, 0, "ro"), (0, 0, None), (0, 0, b"row"), (0, 0, 0), (0, 0, []),
            (0, 0, ("row",)), [0, 0, "row"], (True, 0, "row"), (0, True, "row"), (False, 0, "row"), (0, False, "row"),
            (None, 0, "row"), (0, "0", "row"), ("row", 0, 0), ((0,), 0, "row"), (0, [0], "row"), "00r", ((0, 0), "row"),
        ]
        for thing in wrong:
            with self.subTest(repr(thing)):
                self.refused([ONE, ONE], [thing], [])
                self.refused([ONE, ONE], [(0, 1, "heap"), thing], [])

    def test_what_is_no_letter(self):
        wrong = WRONG_THINGS + [
            (1, 0), (-1, 0), (10 ** 59, 0), (True, 0), (False, 0), (0, True), (0, False), (0,), (0, 0, 0), [0, 0],
            (None, 0), (0, None), ("0", 0), (0, "0"), ((0,), 0), (0, (0,)), (0, [0]), "00", {0: 0}, ((0, 0),),
        ]
        for thing in wrong:
            with self.subTest(repr(thing)):
                self.refused([ONE], [(0, 0, "row")], [thing])
                self.refused([ONE], [(0, 0, "row")], [(0, 3), thing])

    def test_a_letter_needs_a_way(self):
        self.refused([ONE], [], [(0, 0)])
        self.refused([ONE], [(0, 0, "row")] * 3, [(3, 0)])

    def test_ways_out_and_in(self):
        ways = [(0, 1, "row"), (1, 1, "heap"), (1, 0, "row"), (0, 1, "row"), (0, 1, "heap"), (2, 0, "row")]
        net = Net([ONE] * 4, ways, [])
        self.assertEqual([net.ways_out(m) for m in range(4)], [[0, 3, 4], [1, 2], [5], []])
        self.assertEqual([net.ways_in(m) for m in range(4)], [[2, 5], [0, 1, 3, 4], [], []])

    def test_no_such_machine(self):
        net = Net([ONE, ONE], [(0, 1, "row")], [])
        for m in (-1, -2, 2, 3, 5, TOP, -TOP):
            with self.assertRaises(NoMachine):
                net.ways_out(m)
            with self.assertRaises(NoMachine):
                net.ways_in(m)


class NothingKeptTest(unittest.TestCase):
    def test_what_is_handed_in_stays_and_may_be_changed(self):
        handed = [[ONE, ONE], [(0, 1, "row"), (1, 0, "heap")], [(0, 1), (1, 2)]]
        before = copied(handed)
        net = Net(handed[0], handed[1], handed[2])
        self.assertEqual(handed, before)
        for things in handed:
            things.reverse()
            things.pop()
        self.assertEqual([net.machines(), net.ways(), net.letters()], before)

    def test_what_is_told_may_be_changed(self):
        net = Net([ONE, ONE], [(0, 1, "row"), (1, 0, "heap")], [(0, 1), (1, 2)])
        for told in (net.machines(), net.ways(), net.letters(), net.ways_out(0), net.ways_in(1)):
            told.clear()
        self.assertEqual(len(net.machines()), 2)
        self.assertEqual(net.ways(), [(0, 1, "row"), (1, 0, "heap")])
        self.assertEqual(net.letters(), [(0, 1), (1, 2)])
        self.assertEqual((net.ways_out(0), net.ways_in(1)), ([0], [0]))


if __name__ == "__main__":
    unittest.main()
