"""[25] the words that are shown."""

import unittest

from cutrestore.alone import Alone
from cutrestore.errors import NoMachine
from cutrestore.live import Live
from cutrestore.machines import Machine
from cutrestore.marked import Marked
from cutrestore.nets import Net
from cutrestore.numbered import Numbered
from cutrestore.shown import shown_words
from cutrestore.written import Ahead, Passing
from things import BIG, picked, to_and_fro, told_live, two_counters

KINDS = (Alone, Numbered, Ahead, Passing, Marked)


def shown_of(live):
    return [shown_words(live, m) for m in range(len(live.net().machines()))]


class ShownTest(unittest.TestCase):
    def test_nothing_at_first(self):
        for kind in KINDS:
            live = kind(two_counters())
            self.assertEqual(shown_of(live), [[], []])

    def test_written_ahead_all_are_shown_at_once(self):
        live = picked(Ahead(two_counters()), [(1, 0), (0, 0), (1, 1)])
        self.assertEqual(shown_of(live), [[3, 7], [58]])
        live.stop([0, 1])
        self.assertEqual(shown_of(live), [[3, 7], [58]])

    def test_else_when_the_sure_line_comes_there(self):
        for kind in (Alone, Numbered, Passing, Marked):
            live = picked(kind(two_counters()), [(1, 0), (0, 0), (1, 1)])
            self.assertEqual(shown_of(live), [[], []])
            self.assertEqual(live.settle(), (2, 1))
            self.assertEqual(shown_of(live), [[3, 7], [58]])
            live.pick(1, 2)
            self.assertEqual(shown_of(live), [[3, 7], [58]])
            self.assertEqual(live.run().words(0), [3, 7, 6])
            live.stop([0, 1])
            self.assertEqual(shown_of(live), [[3, 7], [58]])

    def test_what_is_kept_but_not_sure_is_not_shown(self):
        live = picked(Alone(to_and_fro(0).net()), to_and_fro(2).schedule())
        live.keep(1)
        self.assertEqual([live.points(1), shown_of(live)], [[0, 2], [[], []]])
        live.keep(0)
        self.assertEqual(shown_of(live), [live.run().words(0), live.run().words(1)])

    def test_each_way_of_keeping_has_its_own_deeds_for_it(self):
        live = picked(Numbered(to_and_fro(0).net()), to_and_fro(1).schedule())
        live.keep(0)
        self.assertEqual(shown_of(live), [[1], []])
        live = picked(Passing(to_and_fro(0).net()), to_and_fro(1).schedule())
        live.write(0)
        self.assertEqual(shown_of(live), [[1], []])
        live = picked(Marked(to_and_fro(0).net()), to_and_fro(1).schedule())
        live.mark(0)
        live.take(0)
        self.assertEqual(shown_of(live), [[], []])
        live.pick(1, 1)
        live.take(1)
        self.assertEqual(shown_of(live), [[1], [1]])

    def test_events_with_no_word_and_with_several(self):
        deeds = [("skip", ("letter",), ("is", 5), 24), ("say", ("letter",)), ("say", ("is", 1))]
        live = Ahead(Net([Machine(9, [0], [], deeds)], [(0, 0, "heap")], [(0, 7), (0, 2), (0, 6)]))
        told = []
        for number in range(3):
            live.pick(0, number)
            told.append(shown_words(live, 0))
        self.assertEqual(told, [[7, 1], [7, 1], [7, 1, 6, 1]])

    def test_behind_letting_go(self):
        for kind in KINDS:
            live = picked(kind(two_counters()), [(1, 0), (0, 0)])
            live.settle()
            live.let_go()
            self.assertEqual(shown_of(live), [[3], [58]])

    def test_no_machine(self):
        for kind in KINDS:
            live = picked(kind(two_counters()), [(1, 0)])
            before = told_live(live)
            for m in (-1, -2, 2, 3, 5, BIG, -BIG, 10 ** 60 - 1):
                with self.subTest((kind, m)), self.assertRaises(NoMachine):
                    shown_words(live, m)
            self.assertEqual(told_live(live), before)

    def test_a_new_list(self):
        for kind in KINDS:
            live = picked(kind(two_counters()), [(1, 0)])
            live.settle()
            told = shown_words(live, 0)
            self.assertIsInstance(told, list)
            told.append(9)
            self.assertEqual([shown_words(live, 0), live.run().words(0)], [[3], [3]])

    def test_asked_of_any_way_of_keeping(self):
        class Half(Live):
            def __init__(self, net):
                Live.__init__(self, net)

            def points(self, m):
                return [0] if self.run().count(m) < 2 else [0, 2]

        live = picked(Half(two_counters()), [(1, 0)])
        self.assertEqual(shown_words(live, 0), [])
        picked(live, [(1, 1), (1, 2)])
        self.assertEqual(shown_words(live, 0), [3, 7])


if __name__ == "__main__":
    unittest.main()
