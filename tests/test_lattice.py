"""[15] greater and lesser cuts, the least cut with an event, and all cuts."""

import itertools
import random
import unittest

from cutrestore.cuts import orphans_of
from cutrestore.errors import NoCount, NoEvent, TooMany
from cutrestore.hearsay import heard_of
from cutrestore.lattice import all_cuts, greater_cut, least_cut_with, lesser_cut
from cutrestore.nets import Net
from cutrestore.runs import Run, played_run
from things import BIG, all_told, copied, counter, counts_of, crossing_run, events_of, lively_run, random_run
from things import two_counters


def cuts_one_by_one(run):
    """All cuts that could have been, out of all there are."""
    every = itertools.product(*[range(count + 1) for count in counts_of(run)])
    return [cut for cut in every if orphans_of(run, cut) == []]


def each_by_itself(counts):
    """A run of machines that send to themselves alone, with so many events."""
    ways = [(m, m, "row") for m in range(len(counts))]
    net = Net([counter() for count in counts], ways, [(m, 1) for m in range(len(counts))])
    return played_run(net, [(m, number) for m, count in enumerate(counts) for number in range(count)])


class GreaterAndLesserTest(unittest.TestCase):
    def setUp(self):
        self.run_told = played_run(two_counters(), [(1, 0), (0, 0), (1, 1), (0, 1), (1, 2)])

    def test_machine_by_machine(self):
        run = self.run_told
        self.assertEqual(greater_cut(run, (3, 0), (1, 2)), (3, 2))
        self.assertEqual(lesser_cut(run, (3, 0), (1, 2)), (1, 0))
        self.assertEqual(greater_cut(run, (1, 1), (1, 1)), (1, 1))
        self.assertEqual(lesser_cut(run, (1, 1), (1, 1)), (1, 1))
        self.assertEqual(greater_cut(run, (0, 0), (3, 2)), (3, 2))
        self.assertEqual(lesser_cut(run, (0, 0), (3, 2)), (0, 0))
        self.assertIsInstance(greater_cut(run, (0, 1), (1, 0)), tuple)
        self.assertIsInstance(lesser_cut(run, (0, 1), (1, 0)), tuple)

    def test_also_of_cuts_that_could_not_have_been(self):
        self.assertEqual(orphans_of(self.run_told, (0, 2)), [(0, 1)])
        self.assertEqual(greater_cut(self.run_told, (0, 2), (2, 0)), (2, 2))
        self.assertEqual(lesser_cut(self.run_told, (0, 2), (2, 0)), (0, 0))

    def test_no_count_where_one_of_both_is_none(self):
        wrong = [(), (1,), (0, 0, 0), (-1, 0), (0, -1), (4, 0), (0, 3), (BIG, 0), (0, -BIG), (4, 3)]
        for cut in wrong:
            for ask in (greater_cut, lesser_cut):
                for one, other in [(cut, (0, 0)), ((0, 0), cut), (cut, cut), ((3, 2), cut), (cut, (3, 2))]:
                    with self.subTest((ask, one, other)), self.assertRaises(NoCount):
                        ask(self.run_told, one, other)

    def test_of_two_that_could_have_been_both_could_have_been(self):
        for seed in range(12):
            run = lively_run(random.Random(seed), 10, 3)
            cuts = cuts_one_by_one(run)
            for one, other in itertools.product(cuts[:25], cuts[-25:]):
                self.assertIn(greater_cut(run, one, other), cuts)
                self.assertIn(lesser_cut(run, one, other), cuts)


class LeastTest(unittest.TestCase):
    def test_what_the_event_heard(self):
        run = played_run(two_counters(), [(1, 0), (0, 0), (1, 1), (0, 1)])
        self.assertEqual([least_cut_with(run, m, c) for m, c in events_of(run)], [(1, 0), (0, 1), (2, 0), (1, 2)])
        self.assertIsInstance(least_cut_with(run, 0, 1), tuple)

    def test_the_least_of_all_with_it(self):
        for seed in range(15):
            run = lively_run(random.Random(seed), 10, 3)
            cuts = cuts_one_by_one(run)
            for m, c in events_of(run):
                with_it = [cut for cut in cuts if cut[m] >= c]
                least = tuple(min(cut[k] for cut in with_it) for k in range(len(with_it[0])))
                self.assertEqual(least_cut_with(run, m, c), least)
                self.assertIn(least, with_it)
                self.assertEqual(heard_of(run, m, c), least)

    def test_no_event(self):
        run = played_run(two_counters(), [(1, 0), (0, 0), (1, 1)])
        for m, c in [(0, 0), (0, 3), (1, 2), (0, -1), (2, 1), (-1, 1), (BIG, 1), (0, BIG), (-BIG, -BIG)]:
            with self.subTest((m, c)), self.assertRaises(NoEvent):
                least_cut_with(run, m, c)


class AllCutsTest(unittest.TestCase):
    def test_of_two_counters(self):
        run = played_run(two_counters(), [(1, 0), (0, 0), (0, 1)])
        self.assertEqual(all_cuts(run), [(0, 0), (0, 1), (1, 0), (1, 1), (1, 2)])

    def test_a_run_without_events(self):
        self.assertEqual(all_cuts(Run(two_counters())), [(0, 0)])
        self.assertEqual(all_cuts(Run(Net([counter()], [], []))), [(0,)])

    def test_one_machine(self):
        self.assertEqual(all_cuts(each_by_itself([3])), [(0,), (1,), (2,), (3,)])

    def test_just_those_that_could_have_been_sorted(self):
        for seed in range(40):
            chance = random.Random(seed)
            run = lively_run(chance, 12, 3) if seed < 30 else random_run(chance, 6)
            cuts = all_cuts(run)
            self.assertEqual(cuts, cuts_one_by_one(run))
            self.assertEqual(cuts, sorted(cuts))
            self.assertEqual([cuts[0], cuts[-1]], [tuple(0 for c in counts_of(run)), counts_of(run)])
            self.assertEqual([type(cuts), type(cuts[0])], [list, tuple])

    def test_long_runs_with_few_cuts(self):
        cuts = all_cuts(crossing_run(60))
        self.assertEqual(cuts, [(i, j) for i in range(61) for j in range(61) if abs(i - j) <= 1])
        self.assertEqual(len(all_cuts(each_by_itself([120]))), 121)

    def test_just_five_hundred_are_told(self):
        cuts = all_cuts(each_by_itself([4, 9, 9]))
        self.assertEqual(len(cuts), 500)
        self.assertEqual(cuts, list(itertools.product(range(5), range(10), range(10))))

    def test_five_hundred_and_one_are_too_many(self):
        # The first event of machine 0 is ahead of all others: the cut of noughts, and the five hundred with it.
        ways = [(0, 0, "row"), (0, 1, "row"), (0, 2, "row"), (1, 1, "row"), (2, 2, "row")]
        net = Net([counter(7, 0, 3), counter(7), counter(7)], ways, [(0, 1)])
        fewer = [(0, 0), (1, 0), (2, 0)] + [(0, number) for number in range(1, 5)]
        fewer += [(3, number) for number in range(8)] + [(4, number) for number in range(7)]
        run = played_run(net, fewer)
        self.assertEqual(len(all_cuts(run)), 1 + 5 * 10 * 9)
        run.pick(4, 7)
        self.assertEqual(counts_of(run), (5, 9, 9))
        with self.assertRaises(TooMany):
            all_cuts(run)

    def test_far_too_many(self):
        for counts in ([24, 24, 24, 24, 24], [6, 7, 8], [1, 250], [119, 4]):
            with self.subTest(counts), self.assertRaises(TooMany):
                all_cuts(each_by_itself(counts))


class NothingChangedTest(unittest.TestCase):
    def test_the_run_stays_and_lists_may_be_changed(self):
        run = played_run(two_counters(), [(1, 0), (0, 0), (0, 1)])
        before = copied(all_told(run))
        cuts = all_cuts(run)
        cuts.reverse()
        cuts.append((9, 9))
        self.assertEqual(all_cuts(run), [(0, 0), (0, 1), (1, 0), (1, 1), (1, 2)])
        greater_cut(run, (0, 1), (1, 0))
        lesser_cut(run, (0, 1), (1, 0))
        least_cut_with(run, 1, 2)
        self.assertEqual(all_told(run), before)
        big = each_by_itself([24, 24, 24])
        before = copied(all_told(big))
        with self.assertRaises(TooMany):
            all_cuts(big)
        self.assertEqual(all_told(big), before)


if __name__ == "__main__":
    unittest.main()
