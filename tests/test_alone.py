"""[19] keeps alone."""

import unittest

from cutrestore.alone import Alone
from cutrestore.errors import NoMachine
from cutrestore.live import Live
from cutrestore.nets import Net
from things import BIG, counter, picked, to_and_fro, told_live, two_counters


def to_and_fro_live(many):
    """A letter went to and fro so many times, and nothing was kept."""
    return picked(Alone(to_and_fro(0).net()), to_and_fro(many).schedule())


class KeepTest(unittest.TestCase):
    def test_it_is_a_live_net(self):
        net = two_counters()
        live = Alone(net)
        self.assertIsInstance(live, Live)
        self.assertIs(live.net(), net)

    def test_0_is_a_point_at_first(self):
        live = Alone(two_counters())
        self.assertEqual([live.points(0), live.points(1), live.sure()], [[0], [0], (0, 0)])

    def test_the_count_is_told_and_a_point(self):
        live = picked(Alone(two_counters()), [(1, 0), (1, 1)])
        self.assertEqual(live.keep(0), 2)
        self.assertEqual([live.points(0), live.points(1)], [[0, 2], [0]])
        live.pick(1, 2)
        self.assertEqual(live.points(0), [0, 2])
        self.assertEqual(live.keep(0), 3)
        self.assertEqual(live.points(0), [0, 2, 3])
        self.assertEqual(live.keep(1), 0)
        self.assertEqual(live.points(1), [0])

    def test_once_however_often(self):
        live = picked(Alone(two_counters()), [(1, 0)])
        self.assertEqual([live.keep(0), live.keep(0), live.keep(0)], [1, 1, 1])
        self.assertEqual([live.keep(1), live.keep(1)], [0, 0])
        self.assertEqual([live.points(0), live.points(1)], [[0, 1], [0]])
        live.let_go()
        self.assertEqual(live.keep(0), 1)
        self.assertEqual(live.points(0), [1])

    def test_where_it_stands_is_in_reach(self):
        live = picked(Alone(two_counters()), [(1, 0), (1, 1), (1, 2)])
        self.assertEqual([live.reach(0), live.reach(1)], [[0, 3], [0]])
        live.keep(0)
        self.assertEqual(live.reach(0), [0, 3])

    def test_no_machine(self):
        live = picked(Alone(two_counters()), [(1, 0), (0, 0)])
        before = told_live(live)
        for m in (-1, -2, 2, 3, 5, BIG, -BIG, 10 ** 60 - 1, 1 - 10 ** 60):
            for ask in (live.keep, live.points, live.reach):
                with self.subTest((ask, m)), self.assertRaises(NoMachine):
                    ask(m)
        self.assertEqual(told_live(live), before)


class StopTest(unittest.TestCase):
    def test_the_latest_keeps_that_fit(self):
        live = to_and_fro_live(1)
        live.keep(0)
        live.keep(1)
        picked(live, [(1, 1), (0, 1)])
        live.keep(1)
        self.assertEqual(live.stop([0]), ((1, 1), [(1, 2, 1, (0, 1))]))
        self.assertEqual(live.history(), [(1, 0), (0, 0)])
        self.assertEqual([live.points(0), live.points(1)], [[0, 1], [0, 1]])

    def test_what_was_forgotten_may_be_kept_again(self):
        live = to_and_fro_live(2)
        self.assertEqual([live.keep(1), live.stop([0])[0], live.points(1)], [2, (0, 0), [0]])
        picked(live, to_and_fro(2).schedule())
        self.assertEqual([live.keep(1), live.points(1)], [2, [0, 2]])

    def test_a_machine_alone_goes_back_to_its_last_keep(self):
        live = Alone(Net([counter(9)], [(0, 0, "heap")], [(0, 1), (0, 2), (0, 3)]))
        picked(live, [(0, 2), (0, 0)])
        live.keep(0)
        picked(live, [(0, 4), (0, 1)])
        self.assertEqual(live.stop([0]), ((2,), []))
        self.assertEqual(live.history(), [(0, 2), (0, 0)])
        self.assertEqual(live.run().lying(0), [(1, 2), (3, 3), (4, 4)])


class LetGoTest(unittest.TestCase):
    def test_what_lies_below_the_sure_line(self):
        live = to_and_fro_live(1)
        for m in (0, 1):
            live.keep(m)
        picked(live, [(1, 1), (0, 1), (1, 2)])
        live.keep(0)
        self.assertEqual([live.points(0), live.points(1), live.sure()], [[0, 1, 3], [0, 1], (1, 1)])
        self.assertEqual(live.let_go(), [[0], [0]])
        self.assertEqual([live.points(0), live.points(1), live.sure()], [[1, 3], [1], (1, 1)])
        self.assertEqual(live.let_go(), [[], []])
        live.keep(1)
        self.assertEqual(live.let_go(), [[1], [1]])
        self.assertEqual([live.points(0), live.points(1), live.sure()], [[3], [2], (3, 2)])

    def test_nothing_below(self):
        live = to_and_fro_live(2)
        live.keep(1)
        self.assertEqual(live.let_go(), [[], []])
        self.assertEqual([live.points(0), live.points(1)], [[0], [0, 2]])

    def test_settled(self):
        live = to_and_fro_live(2)
        self.assertEqual(live.settle(), (2, 2))
        self.assertEqual([live.points(0), live.points(1), live.sure()], [[0, 2], [0, 2], (2, 2)])
        self.assertEqual(live.settle(), (2, 2))
        self.assertEqual([live.points(0), live.points(1)], [[0, 2], [0, 2]])
        self.assertEqual(live.let_go(), [[0], [0]])
        self.assertEqual(live.stop([0, 1]), ((2, 2), []))

    def test_settled_at_the_beginning(self):
        live = Alone(two_counters())
        self.assertEqual([live.settle(), live.let_go()], [(0, 0), [[], []]])
        self.assertEqual([live.points(0), live.points(1)], [[0], [0]])


if __name__ == "__main__":
    unittest.main()
