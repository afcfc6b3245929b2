"""[21, 22] stores, and the states that are made of them."""

import unittest

from cutrestore.errors import NoCount
from cutrestore.machines import Machine
from cutrestore.stores import counts_reached, restored_state
from cutrestore.written import Ahead, Passing
from things import BIG, copied, picked, two_counters

# It takes down the way of each letter and what it says, so that each of both is seen in the state.
SCRIBE = Machine(1000, [0, 5], [], [("add", 0, ("letter",)), ("times", 1, ("is", 3)), ("add", 1, ("way",)),
                                    ("put", ("letter",)), ("send", 0, ("letter",)), ("say", ("first",))])
FIRST = (0, ((0, 5), ()))
LETTERS = [(1, 0, 4), (2, 1, -1), (3, 2, 1007), (4, 0, 0)]
STATES = [
    ((0, 5), ()), ((4, 15), (4,)), ((3, 46), (4, 999)), ((10, 140), (4, 999, 7)), ((10, 420), (4, 999, 7, 0)),
]


class ReachedTest(unittest.TestCase):
    def test_from_the_first_keep_to_the_last_written(self):
        self.assertEqual(counts_reached(([FIRST], [])), [0])
        self.assertEqual(counts_reached(([FIRST], LETTERS)), [0, 1, 2, 3, 4])
        self.assertEqual(counts_reached(([FIRST], LETTERS[:1])), [0, 1])
        self.assertEqual(counts_reached(([(2, STATES[2])], LETTERS[2:])), [2, 3, 4])
        self.assertEqual(counts_reached(([(2, STATES[2]), (3, STATES[3])], LETTERS[2:])), [2, 3, 4])
        self.assertEqual(counts_reached(([(4, STATES[4])], [])), [4])

    def test_a_list(self):
        told = counts_reached(([FIRST], LETTERS))
        self.assertIsInstance(told, list)
        told.append(9)
        self.assertEqual(counts_reached(([FIRST], LETTERS)), [0, 1, 2, 3, 4])


class RestoredTest(unittest.TestCase):
    def states(self, store):
        return [restored_state(SCRIBE, store, c) for c in counts_reached(store)]

    def test_by_letters(self):
        self.assertEqual(self.states(([FIRST], LETTERS)), STATES)

    def test_at_a_keep(self):
        self.assertEqual(self.states(([FIRST], [])), STATES[:1])
        self.assertEqual(self.states(([(4, STATES[4])], [])), STATES[4:])

    def test_with_several_keeps(self):
        for counts in ([0, 1], [0, 2], [0, 4], [0, 1, 2, 3, 4], [0, 2, 3]):
            self.assertEqual(self.states(([(c, STATES[c]) for c in counts], LETTERS)), STATES)

    def test_from_a_later_keep_on(self):
        for first in range(5):
            for second in range(first, 5):
                keeps = [(c, STATES[c]) for c in sorted({first, second})]
                self.assertEqual(self.states((keeps, LETTERS[first:])), STATES[first:])

    def test_made_of_the_store_alone(self):
        # Behind each keep it goes on from what was written, whatever the letters ahead of it would have led to.
        keeps = [FIRST, (2, ((100, 1), (8,)))]
        self.assertEqual(self.states((keeps, LETTERS)), STATES[:2] + [
            ((100, 1), (8,)), ((107, 5), (8, 7)), ((107, 15), (8, 7, 0))])

    def test_no_count(self):
        stores = [
            (([FIRST], []), [-1, 1, 2]),
            (([FIRST], LETTERS), [-1, 5, 6]),
            (([(2, STATES[2])], LETTERS[2:]), [-1, 0, 1, 5]),
            (([(2, STATES[2]), (4, STATES[4])], LETTERS[2:]), [-2, 0, 1, 5]),
        ]
        for store, counts in stores:
            for c in counts + [BIG, -BIG, 10 ** 60 - 1, 1 - 10 ** 60]:
                before = copied(store)
                with self.subTest((store, c)), self.assertRaises(NoCount):
                    restored_state(SCRIBE, store, c)
                self.assertEqual(store, before)

    def test_what_is_handed_in_stays(self):
        store = ([FIRST, (2, STATES[2])], list(LETTERS))
        before = copied(store)
        self.states(store)
        self.assertEqual(store, before)
        self.assertEqual(SCRIBE.first_state(), FIRST[1])

    def test_of_live_nets(self):
        for live in (Ahead(two_counters()), Passing(two_counters())):
            picked(live, [(1, 0), (0, 0), (1, 1)])
            live.keep(0)
            picked(live, [(1, 2), (0, 1)])
            live.settle()
            run = live.run()
            for m, machine in enumerate(live.net().machines()):
                for c in range(run.count(m) + 1):
                    self.assertEqual(restored_state(machine, live.store(m), c), run.state_behind(m, c))
                with self.assertRaises(NoCount):
                    restored_state(machine, live.store(m), run.count(m) + 1)


if __name__ == "__main__":
    unittest.main()
