"""[11] a net's text, and how it is read."""

import random
import unittest

from cutrestore.errors import BadDeed, BadMachine, BadNet, NetError, NoText
from cutrestore.machines import Machine
from cutrestore.machinetexts import machine_text
from cutrestore.nets import Net
from cutrestore.nettexts import net_text, read_net
from things import WRONG_THINGS, counter, random_net

TOP = 10 ** 60 - 1
BARE = Machine(7, [1, 0], [], [])
NET = Net([BARE, counter(9)], [(0, 1, "row"), (1, 1, "heap")], [(1, -4), (0, 5)])
ROWS = [
    "machine 7; 1 0; ", "machine 9; 0; ; add 0 letter; send 0 n0; say n0", "row 0 1", "heap 1 1", "letter 1 -4",
    "letter 0 5",
]


def parts_of(net):
    return ([machine_text(machine) for machine in net.machines()], net.ways(), net.letters())


class WrittenTest(unittest.TestCase):
    def test_rows(self):
        self.assertEqual(net_text(NET), "\n".join(ROWS))

    def test_one_machine_alone(self):
        self.assertEqual(net_text(Net([BARE], [], [])), "machine 7; 1 0; ")

    def test_numbers_of_sixty_figures(self):
        net = Net([BARE], [(0, 0, "heap")], [(0, TOP), (0, -TOP)])
        self.assertEqual(net_text(net), f"machine 7; 1 0; \nheap 0 0\nletter 0 {TOP}\nletter 0 -{TOP}")


class ReadTest(unittest.TestCase):
    def refused(self, text, error=NoText):
        with self.subTest(repr(text)), self.assertRaises(NetError) as told:
            read_net(text)
        self.assertIs(type(told.exception), error)
        return told.exception

    def test_what_is_read(self):
        read = read_net("\n".join(ROWS))
        self.assertIsInstance(read, Net)
        self.assertEqual(parts_of(read), parts_of(NET))
        self.assertEqual(net_text(read), "\n".join(ROWS))

    def test_many_nets(self):
        chance = random.Random(11)
        for turn in range(50):
            net = random_net(chance)
            self.assertEqual(parts_of(read_net(net_text(net))), parts_of(net))

    def test_any_order_of_the_sorts(self):
        machines, ways, letters = ROWS[:2], ROWS[2:4], ROWS[4:]
        for rows in (
            machines + letters + ways, ways + machines + letters, ways + letters + machines, letters + machines + ways,
            letters + ways + machines,
            [letters[0], ways[0], machines[0], ways[1], letters[1], machines[1]],
        ):
            self.assertEqual(parts_of(read_net("\n".join(rows))), parts_of(NET))

    def test_each_sort_in_its_order(self):
        read = read_net("\n".join([ROWS[1], ROWS[0], ROWS[3], ROWS[2], ROWS[5], ROWS[4]]))
        told = parts_of(read)
        self.assertEqual(told[0], [row.split(" ", 1)[1] for row in (ROWS[1], ROWS[0])])
        self.assertEqual(told[1:], ([(1, 1, "heap"), (0, 1, "row")], [(0, 5), (1, -4)]))

    def test_at_the_bounds(self):
        rows = ["machine 2; 0; "] * 5 + ["heap 4 4"] * 10 + [f"letter 9 {TOP}"] * 10 + [f"letter 9 -{TOP}"] * 10
        read = read_net("\n".join(rows))
        self.assertEqual([len(part) for part in parts_of(read)], [5, 10, 20])

    def test_things_that_are_no_text(self):
        for thing in WRONG_THINGS + [ROWS, tuple(ROWS), "\n".join(ROWS).encode(), NET, BARE]:
            self.refused(thing)

    def test_line_feeds(self):
        text = "\n".join(ROWS)
        for wrong in ("", "\n", text + "\n", "\n" + text, text.replace("\n", "\n\n"), text.replace("\n", "\r\n")):
            self.refused(wrong)
        for wrong in (text.replace("\n", " "), text.replace("\n", "; "), text.replace("\n", "\t")):
            self.refused(wrong)

    def test_rows_that_are_none(self):
        wrong = ["", " ", "machine", "machine ", "machines 7; 1 0; ", "Machine 7; 1 0; ", "machine  7; 1 0; "]
        wrong += [" machine 7; 1 0; ", "machine 7; 1 0;", "machine 7; 1 0; ; jump", "machine\t7; 1 0; ", "7; 1 0; "]
        wrong += ["machine 7; 1 0;  ", "machine 7; 01 0; ", "row", "row 0", "row 0 ", "row 0 0 0", "row 0 0 ", "row  0 0"]
        wrong += [" row 0 0", "row 0  0", "Row 0 0", "rows 0 0", "row 0,0", "row 00 0", "row 0 -0", "row +0 0", "row n0 0"]
        wrong += ["row\t0 0", "heap", "heap 0", "heap 0 0 0", "heap 0 01", "heaps 0 0", "letter", "letter 0", "letter 0 "]
        wrong += ["letter 0 0 0", "letter 0 -0", "letter 0 +1", "letter 0 01", "letter 0 1.0", "letter 0 1_0", "letter 0 n0"]
        wrong += ["letter 0 letter", "letters 0 0", "way 0 0", "0 0", "row row 0 0", "# row", "letter -0 0", "letter 0 --1"]
        for row in wrong:
            self.refused("\n".join(ROWS + [row]))
            self.refused("\n".join([row] + ROWS))
            self.refused(row)

    def test_as_machines_are_refused(self):
        self.refused("machine 1; 0; ", BadMachine)
        self.refused("machine 7; 9; ", BadMachine)
        self.assertEqual(self.refused("machine 7; 0; ; drop; set 1 1", BadDeed).at, 1)
        self.assertEqual(self.refused("machine 7; 0; " + "; drop" * 25, BadDeed).at, 24)
        self.assertEqual(self.refused("machine 7; 0; \nmachine 7; 0; ; say n3", BadDeed).at, 0)

    def test_the_first_machine_that_is_refused(self):
        self.refused("machine 1; 0; \nmachine 7; 0; ; say n3", BadMachine)
        self.refused("machine 7; 0; ; say n3\nmachine 1; 0; ", BadDeed)

    def test_as_nets_are_refused(self):
        for row in ("row 0 2", "row 2 0", "row -1 0", "heap 0 -1", f"row {TOP} 0", f"heap 0 -{TOP}", "letter 2 0"):
            self.refused("\n".join(ROWS + [row]), BadNet)
        for row in ("letter -1 0", f"letter {TOP} 0", f"letter 0 {TOP + 1}", f"letter 0 -{TOP + 1}"):
            self.refused("\n".join([row] + ROWS), BadNet)
        for row in ("row 0 0", "heap 0 0", "letter 0 0"):
            self.refused(row, BadNet)
        self.refused("\n".join(["machine 2; 0; "] * 6), BadNet)
        self.refused("\n".join(["machine 2; 0; "] + ["row 0 0"] * 11), BadNet)
        self.refused("\n".join(["machine 2; 0; ", "row 0 0"] + ["letter 0 0"] * 21), BadNet)

    def test_the_order_of_refusals(self):
        self.refused("machine 1; 0; \nrow 0 9\nletter 0 00")
        self.refused("machine 7; 0; ; say n3\nmachine 7; 0")
        self.refused("row 0 9\nrow 0")
        self.refused("letter 9 9\nmachine 1; 0; ", BadMachine)
        self.refused("row 0 9\nmachine 7; 0; ; say n3", BadDeed)
        self.refused("\n".join(["machine 2; 0; "] * 6 + ["machine 1; 0; "]), BadMachine)


if __name__ == "__main__":
    unittest.main()
