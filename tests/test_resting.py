"""[26] resting."""

import unittest

from cutrestore.alone import Alone
from cutrestore.errors import Busy, NoCount
from cutrestore.live import Live
from cutrestore.marked import Marked
from cutrestore.nets import Net
from cutrestore.numbered import Numbered
from cutrestore.resting import rest_live
from cutrestore.written import Ahead, Passing
from things import BIG, WRONG_THINGS, counter, crossing_run, picked, to_and_fro, told_live, two_counters

KINDS = (Alone, Numbered, Ahead, Passing, Marked)


def dead_end(sort):
    """Two counters that send nothing on: four letters, and no more."""
    ways = [(0, 1, sort), (1, 0, sort)]
    return Net([counter(10, 0, 0), counter(10, 0, 0)], ways, [(1, 3), (0, 4), (1, 5), (0, 6)])


class RestTest(unittest.TestCase):
    def test_the_least_letter_each_time(self):
        for kind in KINDS:
            live = kind(dead_end("row"))
            self.assertEqual(rest_live(live, 3), 3)
            self.assertEqual(live.history(), [(0, 0), (0, 1), (1, 0)])

    def test_letters_that_come_are_picked_too(self):
        live = Alone(two_counters())
        self.assertEqual(rest_live(live, 5), 5)
        # On way 1 the letters 0 to 2 lie there; what machine 0 sends comes by way 0, and that is less.
        self.assertEqual(live.history(), [(0, 0), (1, 0), (0, 1), (1, 1), (0, 2)])

    def test_the_least_number_of_a_heap(self):
        live = picked(Ahead(two_counters("heap")), [(1, 1)])
        self.assertEqual(rest_live(live, 4), 4)
        self.assertEqual(live.history()[1:], [(0, 0), (0, 1), (1, 0), (0, 2)])

    def test_till_none_may(self):
        for kind in KINDS:
            live = kind(dead_end("row"))
            self.assertEqual([rest_live(live, 120), rest_live(live, 120), rest_live(live, 1)], [4, 0, 0])
            self.assertEqual(live.history(), [(0, 0), (0, 1), (1, 0), (1, 1)])

    def test_just_so_many_as_there_are(self):
        for most, many in [(3, 3), (4, 4), (5, 4)]:
            self.assertEqual(rest_live(Alone(dead_end("heap")), most), many)

    def test_none(self):
        for kind in KINDS:
            live = kind(two_counters())
            before = told_live(live)
            self.assertEqual(rest_live(live, 0), 0)
            self.assertEqual(told_live(live), before)

    def test_without_ways(self):
        for kind in KINDS:
            live = kind(Net([counter()], [], []))
            self.assertEqual(rest_live(live, 120), 0)

    def test_120(self):
        for kind in KINDS:
            live = kind(to_and_fro(0).net())
            self.assertEqual(rest_live(live, 120), 120)
            self.assertEqual(live.history(), to_and_fro(60).schedule())
            self.assertEqual([rest_live(live, 80), len(live.history())], [80, 200])

    def test_from_where_it_stands_behind_a_stop(self):
        live = picked(Alone(crossing_run(0).net()), crossing_run(2).schedule())
        live.settle()
        picked(live, [(0, 2), (1, 2)])
        live.stop([0, 1])
        self.assertEqual(rest_live(live, 2), 2)
        self.assertEqual(live.history()[4:], [(0, 2), (1, 2)])


class MarksTest(unittest.TestCase):
    def test_marks_are_held_to_and_not_taken(self):
        live = Marked(two_counters())
        live.mark(0)
        self.assertEqual(live.marks(), [(0, 1)])
        # Way 0 has one letter ahead of its mark; then way 1 goes on till it is empty.
        self.assertEqual(rest_live(live, 120), 5)
        self.assertEqual(live.history(), [(0, 0), (1, 0), (1, 1), (1, 2), (1, 3)])
        self.assertEqual([live.marks(), live.in_hand()], [[(0, 1)], [0, None]])
        self.assertEqual(rest_live(live, 120), 0)
        live.take(0)
        # What machine 1 sends from there on lies behind the mark on way 1.
        self.assertEqual([live.marks(), live.run().lying(1)], [[(1, 4)], []])
        self.assertEqual(rest_live(live, 120), 4)
        self.assertEqual(live.history()[5:], [(0, 1), (0, 2), (0, 3), (0, 4)])
        self.assertEqual([live.take(1), live.done_cuts()[0][0], rest_live(live, 3)], [0, (0, 1), 3])

    def test_what_a_way_of_keeping_refuses_is_not_picked(self):
        class Even(Live):
            def __init__(self, net):
                Live.__init__(self, net)

            def ahead_of(self, way, number):
                if number % 2:
                    raise Busy("an odd one")

        live = Even(two_counters("heap"))
        self.assertEqual(rest_live(live, 120), 5)
        self.assertEqual(live.history(), [(0, 0), (1, 0), (1, 2), (0, 2), (1, 4)])


class AsPickedTest(unittest.TestCase):
    def test_as_if_picked_one_by_one(self):
        for kind in KINDS:
            rested, one_by_one = kind(two_counters()), kind(two_counters())
            for live in (rested, one_by_one):
                picked(live, [(1, 0)])
                if kind is Marked:
                    live.mark(0)
                else:
                    live.keep(0)
            history = rested.history()
            many = rest_live(rested, 7)
            picked(one_by_one, rested.history()[len(history):])
            self.assertEqual(len(rested.history()), len(history) + many)
            self.assertEqual(told_live(rested), told_live(one_by_one))


class NoCountTest(unittest.TestCase):
    def test_what_is_no_number_from_0_to_120(self):
        things = [-1, 121, -BIG, BIG, 10 ** 60 - 1, True, False, None, "", "5", b"5", [5], (5,), {}, {5: 5}]
        things += [thing for thing in WRONG_THINGS if type(thing) is not int]
        for kind in KINDS:
            live = picked(kind(two_counters()), [(1, 0)])
            before = told_live(live)
            for thing in things:
                with self.subTest((kind, thing)), self.assertRaises(NoCount):
                    rest_live(live, thing)
            self.assertEqual(told_live(live), before)


if __name__ == "__main__":
    unittest.main()
