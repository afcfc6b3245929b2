"""[14] cuts, orphans, the two parts of a cut, and the letters that lie there."""

import itertools
import random
import unittest

from cutrestore.cuts import lying_at, orphans_of, parts_of_cut
from cutrestore.errors import NoCount, Orphaned
from cutrestore.nets import Net
from cutrestore.runs import Run, played_run
from things import BIG, all_told, copied, counter, counts_of, events_of, lively_run, random_run, two_counters

ASKS = (orphans_of, parts_of_cut, lying_at)


def ping_pong():
    """A letter that goes to and fro, and a second first letter; events (0, 1) (1, 1) (0, 2) (1, 2) (1, 3)."""
    net = Net([counter(50), counter(50)], [(0, 1, "row"), (1, 0, "row"), (0, 1, "heap")], [(1, 1), (2, 20)])
    return played_run(net, [(1, 0), (0, 0), (1, 1), (0, 1), (2, 0)])


def two_to_one():
    """Machine 0 sends three letters at once, by two ways; machine 1 works on all of them, the last first."""
    net = Net([counter(50, 0, 2), counter(50, 0, 0)], [(0, 1, "heap"), (0, 1, "heap"), (1, 0, "row")],
              [(2, 1), (2, 2)])
    return played_run(net, [(2, 0), (2, 1), (1, 1), (0, 1), (1, 0), (0, 0)])


def every_cut(run):
    return itertools.product(*[range(count + 1) for count in counts_of(run)])


def every_letter(run):
    return [(way, number) for way in range(len(run.net().ways())) for number in range(run.put_many(way))]


def is_inside(event, cut):
    return event is not None and event[1] <= cut[event[0]]


class OrphansTest(unittest.TestCase):
    def test_none_of_the_least_and_the_greatest(self):
        for run in [ping_pong(), two_to_one(), Run(two_counters())]:
            self.assertEqual(orphans_of(run, tuple(0 for c in counts_of(run))), [])
            self.assertEqual(orphans_of(run, counts_of(run)), [])

    def test_one(self):
        self.assertEqual(orphans_of(ping_pong(), (0, 1)), [(0, 0)])
        self.assertEqual(orphans_of(ping_pong(), (2, 0)), [(1, 1)])
        self.assertEqual(orphans_of(ping_pong(), (1, 2)), [(0, 1)])

    def test_several_are_sorted(self):
        self.assertEqual(orphans_of(ping_pong(), (0, 3)), [(0, 0), (0, 1)])
        run = two_to_one()
        orphans = [orphans_of(run, (0, c)) for c in range(5)]
        self.assertEqual(orphans, [[], [(1, 1)], [(0, 1), (1, 1)], [(0, 1), (1, 0), (1, 1)],
                                   [(0, 0), (0, 1), (1, 0), (1, 1)]])
        self.assertEqual(orphans_of(run, (1, 4)), [(0, 1), (1, 1)])
        self.assertIsInstance(orphans_of(run, (0, 4)), list)
        self.assertIsInstance(orphans_of(run, (0, 4))[0], tuple)

    def test_numbers_are_sorted_as_numbers(self):
        net = Net([counter(50, 0, 1), counter(50, 0, 0)], [(0, 1, "heap"), (0, 0, "row"), (1, 0, "row")], [(2, 1)] * 12)
        run = Run(net)
        for number in range(12):
            run.pick(2, number)
        for number in (11, 2, 10, 1):
            run.pick(0, number)
        self.assertEqual(orphans_of(run, (0, 4)), [(0, 1), (0, 2), (0, 10), (0, 11)])

    def test_a_first_letter_is_none(self):
        net = Net([counter(7), counter(7)], [(0, 1, "heap"), (1, 0, "heap")], [(0, 1), (0, 2), (1, 3)])
        run = played_run(net, [(0, 1), (1, 0), (0, 0)])
        for cut in every_cut(run):
            self.assertEqual(orphans_of(run, cut), [])

    def test_a_letter_to_oneself_is_none(self):
        run = played_run(Net([counter(7)], [(0, 0, "row")], [(0, 1)]), [(0, 0), (0, 1), (0, 2)])
        self.assertEqual([orphans_of(run, (c,)) for c in range(4)], [[], [], [], []])

    def test_as_the_words_of_the_document_say(self):
        for seed in range(30):
            chance = random.Random(seed)
            run = lively_run(chance, 12, 3) if seed < 20 else random_run(chance, 8)
            for cut in every_cut(run):
                told = [letter for letter in every_letter(run) if run.sent_by(*letter) is not None and
                        is_inside(run.worked_by(*letter), cut) and not is_inside(run.sent_by(*letter), cut)]
                self.assertEqual(orphans_of(run, cut), told)


class PartsTest(unittest.TestCase):
    def check(self, run, cut):
        """Play both parts, as anybody can."""
        told = parts_of_cut(run, cut)
        self.assertIsInstance(told, tuple)
        within, behind = told
        self.assertEqual([type(within), type(behind)], [list, list])
        schedule, events = run.schedule(), events_of(run)
        self.assertEqual(within, [pick for pick, one in zip(schedule, events) if one[1] <= cut[one[0]]])
        self.assertEqual(behind, [pick for pick, one in zip(schedule, events) if one[1] > cut[one[0]]])
        begun = played_run(run.net(), within)
        self.assertEqual(counts_of(begun), cut)
        for m, c in enumerate(cut):
            self.assertEqual([begun.state(m), begun.words(m)], [run.state_behind(m, c), run.words_behind(m, c)])
        self.assertEqual(lying_at(run, cut), [begun.lying(way) for way in range(len(run.net().ways()))])
        self.assertEqual(all_told(played_run(run.net(), within + behind))[1:], all_told(run)[1:])

    def test_of_ping_pong(self):
        run = ping_pong()
        self.assertEqual(parts_of_cut(run, (1, 0)), ([(1, 0)], [(0, 0), (1, 1), (0, 1), (2, 0)]))
        self.assertEqual(parts_of_cut(run, (2, 1)), ([(1, 0), (0, 0), (1, 1)], [(0, 1), (2, 0)]))
        self.assertEqual(parts_of_cut(run, (0, 0)), ([], run.schedule()))
        self.assertEqual(parts_of_cut(run, (2, 3)), (run.schedule(), []))
        self.assertEqual(parts_of_cut(Run(two_counters()), (0, 0)), ([], []))

    def test_in_the_order_of_the_schedule(self):
        run = played_run(two_counters(), [(1, 0), (0, 0), (1, 1), (0, 1), (1, 2)])
        self.assertEqual(parts_of_cut(run, (3, 1)), ([(1, 0), (0, 0), (1, 1), (1, 2)], [(0, 1)]))
        self.assertEqual(parts_of_cut(run, (1, 2)), ([(1, 0), (0, 0), (0, 1)], [(1, 1), (1, 2)]))
        self.assertEqual(parts_of_cut(run, (0, 1)), ([(0, 0)], [(1, 0), (1, 1), (0, 1), (1, 2)]))

    def test_orphaned_with_the_least(self):
        for run, cut, letter in [
                (ping_pong(), (0, 1), (0, 0)), (ping_pong(), (0, 3), (0, 0)), (ping_pong(), (2, 0), (1, 1)),
                (two_to_one(), (0, 1), (1, 1)), (two_to_one(), (0, 2), (0, 1)), (two_to_one(), (0, 4), (0, 0)),
                (two_to_one(), (1, 4), (0, 1))]:
            with self.subTest(cut), self.assertRaises(Orphaned) as told:
                parts_of_cut(run, cut)
            self.assertEqual(told.exception.letter, letter)

    def test_each_cut_is_told_by_parts_or_by_an_orphan(self):
        orphaned = 0
        for seed in range(30):
            chance = random.Random(seed)
            run = lively_run(chance, 12, 3) if seed < 20 else random_run(chance, 8)
            for cut in every_cut(run):
                orphans = orphans_of(run, cut)
                if orphans == []:
                    self.check(run, cut)
                else:
                    orphaned += 1
                    with self.assertRaises(Orphaned) as told:
                        parts_of_cut(run, cut)
                    self.assertEqual(told.exception.letter, orphans[0])
        self.assertGreater(orphaned, 100)

    def test_the_longest(self):
        net = Net([counter(97), counter(97)], [(0, 1, "row"), (1, 0, "row")], [(1, 1)])
        run = played_run(net, [(way, number) for number in range(60) for way in (1, 0)])
        self.check(run, (60, 60))
        self.check(run, (31, 30))


class LyingTest(unittest.TestCase):
    def test_a_list_of_lists(self):
        told = lying_at(ping_pong(), (1, 0))
        self.assertEqual(told, [[(0, 1)], [], [(0, 20)]])
        self.assertEqual([type(told), type(told[0]), type(told[0][0])], [list, list, tuple])

    def test_at_noughts_the_first_letters(self):
        run = played_run(two_counters(), [(1, 0), (0, 0), (1, 1), (0, 1)])
        self.assertEqual(lying_at(run, (0, 0)), [[(0, 8)], [(0, 3), (1, 4), (2, -1)]])

    def test_at_all_counts_what_the_run_tells(self):
        for seed in range(20):
            run = random_run(random.Random(seed), 20)
            self.assertEqual(lying_at(run, counts_of(run)), [run.lying(way) for way in range(len(run.net().ways()))])

    def test_of_a_cut_with_orphans(self):
        self.assertEqual(lying_at(ping_pong(), (0, 1)), [[], [(0, 1), (1, 1)], [(0, 20)]])
        self.assertEqual(lying_at(ping_pong(), (2, 0)), [[(0, 1), (1, 2)], [], [(0, 20)]])
        self.assertEqual(lying_at(two_to_one(), (0, 4)), [[], [], [(0, 1), (1, 2)]])
        self.assertEqual(lying_at(two_to_one(), (2, 0)), [[(0, 1), (1, 3)], [(0, 1), (1, 3)], []])
        self.assertEqual(lying_at(two_to_one(), (1, 2)), [[(0, 1)], [(0, 1)], [(1, 2)]])

    def test_a_net_without_ways(self):
        self.assertEqual(lying_at(Run(Net([counter()], [], [])), (0,)), [])

    def test_as_the_words_of_the_document_say(self):
        for seed in range(20):
            run = lively_run(random.Random(seed), 10, 3)
            for cut in every_cut(run):
                told = [[] for way in run.net().ways()]
                for way, number in every_letter(run):
                    sender, worker = run.sent_by(way, number), run.worked_by(way, number)
                    if (sender is None or is_inside(sender, cut)) and not is_inside(worker, cut):
                        told[way].append((number, run.said(way, number)))
                self.assertEqual(lying_at(run, cut), told)


class NoCountTest(unittest.TestCase):
    def test_what_is_no_cut(self):
        run = ping_pong()
        wrong = [(), (1,), (0,), (0, 0, 0), (2, 3, 0), (-1, 0), (0, -1), (3, 3), (2, 4), (0, 4), (3, 0), (BIG, 0),
                 (0, BIG), (-BIG, 3), (2, -BIG), (-1, -1), (1, 1, 1, 1, 1, 1), (10 ** 60 - 1, 10 ** 60 - 1)]
        for ask in ASKS:
            ask(run, (0, 0))
            ask(run, (2, 3))
            for cut in wrong:
                with self.subTest((ask, cut)), self.assertRaises(NoCount):
                    ask(run, cut)

    def test_a_run_without_events(self):
        for cut in [(), (0,), (0, 1), (1, 0), (0, 0, 0), (-1, 0)]:
            for ask in ASKS:
                with self.subTest((ask, cut)), self.assertRaises(NoCount):
                    ask(Run(two_counters()), cut)

    def test_ahead_of_orphaned(self):
        # Machine 1 alone would have orphans at these counts.
        for cut in [(0, 4), (-1, 3), (0, 3, 0), (0, 1, 0)]:
            with self.subTest(cut), self.assertRaises(NoCount):
                parts_of_cut(ping_pong(), cut)


class NothingChangedTest(unittest.TestCase):
    def test_the_run_stays(self):
        run = ping_pong()
        before = copied(all_told(run))
        for cut in every_cut(run):
            for ask in ASKS:
                try:
                    ask(run, cut)
                except Orphaned:
                    pass
                self.assertEqual(all_told(run), before)
        self.assertEqual(run.pick(1, 2), (0, 3))

    def test_lists_told_may_be_changed(self):
        run = ping_pong()
        before = copied(all_told(run))
        told = [orphans_of(run, (0, 3)), parts_of_cut(run, (2, 1)), lying_at(run, (1, 0))]
        again = copied(told)
        told[0].clear()
        told[1][0].append((9, 9))
        told[1][1].clear()
        told[2][0].append((7, 7))
        told[2].clear()
        self.assertEqual([orphans_of(run, (0, 3)), parts_of_cut(run, (2, 1)), lying_at(run, (1, 0))], again)
        self.assertEqual(all_told(run), before)


if __name__ == "__main__":
    unittest.main()
