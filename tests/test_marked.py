"""[23, 24] cuts by marks, and of [19] letting go and settling with them."""

import random
import unittest

from cutrestore.cuts import lying_at, orphans_of
from cutrestore.errors import Busy, NoLetter, NoMachine, NoMark, NotFirst, NotReached, NotRow
from cutrestore.live import Live
from cutrestore.marked import Marked
from cutrestore.nets import Net
from things import BIG, all_told, copied, counter, counts_of, lively_net, machines_of, pick_any, picked, to_and_fro
from things import told_live, two_counters

NO_NUMBERS = (-1, -2, 2, 3, 9, BIG, -BIG, 10 ** 60 - 1, 1 - 10 ** 60)


def net_of(many, ends, letters=(), sends=1):
    """A net of so many counters, with rows between them."""
    return Net([counter(50, m, sends) for m in range(many)], [(one, other, "row") for one, other in ends], letters)


def ring(many):
    """Each machine sends to the next one, and each has a letter."""
    return net_of(many, [(m, (m + 1) % many) for m in range(many)], [(m, m + 1) for m in range(many)])


def mesh(many):
    """From each machine a way to each other one; each machine has a letter."""
    ends = [(one, other) for one in range(many) for other in range(many) if one != other]
    return net_of(many, ends[:10], [(way, way) for way in range(min(len(ends), 10))], many - 1)


def take_all(live):
    """Take each mark that may come till none lies there: where the goals kept."""
    told = []
    while live.marks():
        for way, number in live.marks():
            while live.run().lying(way) and live.run().lying(way)[0][0] < number:
                live.pick(way, live.run().lying(way)[0][0])
            told.append((way, live.take(way)))
    return told


class NotRowTest(unittest.TestCase):
    def test_the_first_heap(self):
        nets = [(["heap"], 0), (["row", "heap"], 1), (["row", "row", "heap", "row", "heap"], 2), (["heap", "heap"], 0)]
        for sorts, way in nets:
            net = Net([counter()], [(0, 0, sort) for sort in sorts], [(0, 1)])
            with self.subTest(sorts), self.assertRaises(NotRow) as told:
                Marked(net)
            self.assertEqual(told.exception.way, way)

    def test_rows_alone(self):
        for sorts in ([], ["row"], ["row"] * 10):
            net = Net([counter()], [(0, 0, sort) for sort in sorts], [])
            self.assertIsInstance(Marked(net), Live)
            self.assertIs(Marked(net).net(), net)


class MarkTest(unittest.TestCase):
    def test_at_first(self):
        live = Marked(two_counters())
        self.assertEqual([live.marks(), live.in_hand(), live.done_cuts()], [[], None, []])
        self.assertEqual([live.points(0), live.points(1), live.sure()], [[0], [0], (0, 0)])

    def test_the_count_and_a_mark_on_each_way_out(self):
        live = Marked(net_of(2, [(0, 1), (1, 0), (0, 1), (0, 0)], [(1, 3), (1, 4), (2, 5), (0, 6), (2, 7)], 2))
        picked(live, [(1, 0)])
        self.assertEqual([live.run().put_many(way) for way in range(4)], [2, 2, 3, 0])
        self.assertEqual(live.mark(0), 1)
        self.assertEqual([live.marks(), live.in_hand()], [[(0, 2), (2, 3), (3, 0)], [1, None]])
        self.assertEqual([live.done_cuts(), live.points(0)], [[], [0]])

    def test_no_machine(self):
        live = picked(Marked(two_counters()), [(1, 0)])
        for turn in range(2):
            before = told_live(live)
            for m in NO_NUMBERS:
                for ask in (live.mark, live.points, live.reach):
                    with self.subTest((ask, m)), self.assertRaises(NoMachine):
                        ask(m)
            self.assertEqual(told_live(live), before)
            # With a cut in hand, too: NoMachine comes ahead of Busy.
            if turn == 0:
                live.mark(0)

    def test_busy(self):
        live = Marked(ring(3))
        live.mark(1)
        before = told_live(live)
        for m in (0, 1, 2):
            with self.assertRaises(Busy):
                live.mark(m)
        self.assertEqual(told_live(live), before)
        take_all(live)
        self.assertEqual(live.in_hand(), None)
        live.mark(0)

    def test_not_reached(self):
        nets = [
            (2, [], 0, 1), (2, [], 1, 0), (2, [(0, 1)], 1, 0), (3, [(0, 1)], 0, 2), (3, [(1, 0), (0, 1)], 1, 2),
            (4, [(0, 1), (1, 2), (3, 0)], 0, 3), (4, [(0, 1), (3, 2), (3, 0), (1, 0)], 1, 2), (5, [(4, 4)], 4, 0),
            (5, [(0, 1), (1, 2), (2, 3)], 0, 4), (5, [(0, 1), (1, 2), (2, 3)], 2, 0), (3, [(0, 2), (2, 0)], 0, 1),
        ]
        for many, ends, m, machine in nets:
            live = Marked(net_of(many, ends))
            before = told_live(live)
            with self.subTest((many, ends, m)), self.assertRaises(NotReached) as told:
                live.mark(m)
            self.assertEqual(told.exception.machine, machine)
            self.assertEqual(told_live(live), before)

    def test_reached_by_several_ways_one_behind_another(self):
        for many, ends, m in [(5, [(4, 3), (3, 2), (2, 1), (1, 0)], 4), (3, [(1, 2), (2, 0)], 1), (2, [(0, 1)], 0)]:
            live = Marked(net_of(many, ends))
            self.assertEqual(live.mark(m), 0)
            self.assertEqual([way for way, number in live.marks()], [ends.index(end) for end in ends if end[0] == m])

    def test_busy_comes_ahead_of_not_reached(self):
        live = Marked(net_of(2, [(0, 1)]))
        live.mark(0)
        with self.assertRaises(Busy):
            live.mark(1)
        live.take(0)
        with self.assertRaises(NotReached):
            live.mark(1)


class TakeTest(unittest.TestCase):
    def test_no_mark(self):
        live = Marked(ring(3))
        for turn in range(2):
            before = told_live(live)
            for way in (0, 2) + NO_NUMBERS[3:] + (-1, -2, 3):
                with self.subTest(way), self.assertRaises(NoMark):
                    live.take(way)
            self.assertEqual(told_live(live), before)
            if turn == 0:
                live.mark(1)

    def test_not_ahead_of_the_letters_that_were_put_ahead(self):
        live = Marked(net_of(2, [(0, 1), (1, 0)], [(0, 5), (0, 6), (1, 7)]))
        live.mark(0)
        for number in (0, 1):
            before = told_live(live)
            with self.assertRaises(NotFirst) as told:
                live.take(0)
            self.assertEqual(told.exception.at, 0)
            self.assertEqual(told_live(live), before)
            live.pick(0, number)
        self.assertEqual(live.take(0), 2)

    def test_letters_put_behind_it_do_not_hold_it_up(self):
        live = Marked(net_of(2, [(0, 1), (1, 0)], [(1, 7), (1, 8)]))
        live.mark(0)
        picked(live, [(1, 0), (1, 1)])
        self.assertEqual([live.run().lying(0), live.marks()], [[(0, 7), (1, 15)], [(0, 0)]])
        self.assertEqual(live.take(0), 0)
        self.assertEqual([live.marks(), live.in_hand()], [[(1, 2)], [0, 0]])

    def test_where_the_goal_kept_just_now_or_before(self):
        live = Marked(net_of(3, [(0, 1), (0, 2), (1, 2), (2, 0)], [(3, 1), (0, 4)], 2))
        picked(live, [(3, 0)])
        self.assertEqual(live.mark(0), 1)
        self.assertEqual(live.marks(), [(0, 2), (1, 1)])
        picked(live, [(0, 0), (0, 1)])
        self.assertEqual(live.take(0), 2)
        self.assertEqual([live.marks(), live.in_hand()], [[(1, 1), (2, 2)], [1, 2, None]])
        picked(live, [(2, 0), (2, 1)])
        self.assertEqual(live.take(2), 2)
        self.assertEqual([live.marks(), live.in_hand()], [[(1, 1), (3, 3)], [1, 2, 2]])
        picked(live, [(1, 0)])
        # Machine 2 stands at 3, and kept at 2.
        self.assertEqual(live.take(1), 2)
        self.assertEqual([live.marks(), live.in_hand()], [[(3, 3)], [1, 2, 2]])
        picked(live, [(3, 1)])
        with self.assertRaises(NotFirst):
            live.take(3)
        picked(live, [(3, 2)])
        self.assertEqual(live.take(3), 1)
        self.assertEqual([live.marks(), live.in_hand()], [[], None])
        # What came by way 1 and by way 3 came behind the keeps and ahead of the marks.
        self.assertEqual([counts for counts, lists in live.done_cuts()], [(1, 2, 2)])
        lists = live.done_cuts()[0][1]
        self.assertEqual([[number for number, said in letters] for letters in lists], [[], [0], [], [1, 2]])
        self.assertEqual(lists, lying_at(live.run(), (1, 2, 2)))

    def test_letters_behind_a_mark_wait(self):
        live = Marked(net_of(2, [(0, 1), (1, 0)], [(0, 5), (1, 7), (1, 8)]))
        live.mark(0)
        picked(live, [(1, 0), (1, 1)])
        self.assertEqual([live.marks(), live.run().lying(0)], [[(0, 1)], [(0, 5), (1, 7), (2, 15)]])
        before = told_live(live)
        for number in (1, 2):
            with self.assertRaises(NotFirst) as told:
                live.pick(0, number)
            self.assertEqual(told.exception.at, 0)
        live.pick(0, 0)
        for way, number, error in [(0, 1, NotFirst), (0, 2, NotFirst), (0, 3, NoLetter), (0, 0, NoLetter),
                                   (0, -1, NoLetter), (2, 0, NoLetter), (0, BIG, NoLetter), (1, 5, NoLetter)]:
            with self.subTest((way, number)), self.assertRaises(error) as told:
                live.pick(way, number)
            self.assertEqual(told.exception.at, 0)
        self.assertEqual([len(live.history()), before[0]], [3, [(1, 0), (1, 1)]])
        live.take(0)
        self.assertEqual(live.pick(0, 1), (1, 2))

    def test_the_goal_s_own_letters_go_on(self):
        live = Marked(ring(3))
        live.mark(0)
        # The mark lies on way 0 alone: way 1 and 2 go on, in whatever cut their goals are.
        self.assertEqual([live.pick(1, 0), live.pick(2, 0), live.pick(0, 0)], [(2, 1), (0, 1), (1, 1)])


class DoneTest(unittest.TestCase):
    def test_one_machine_without_a_way(self):
        live = Marked(net_of(1, []))
        self.assertEqual(live.mark(0), 0)
        self.assertEqual([live.marks(), live.in_hand(), live.done_cuts()], [[], None, [((0,), [])]])
        self.assertEqual(live.mark(0), 0)
        self.assertEqual([live.done_cuts(), live.points(0)], [[((0,), [])] * 2, [0]])

    def test_one_machine_with_a_way_to_itself(self):
        live = Marked(net_of(1, [(0, 0)], [(0, 3), (0, 4)]))
        live.pick(0, 0)
        self.assertEqual(live.mark(0), 1)
        self.assertEqual([live.marks(), live.in_hand()], [[(0, 3)], [1]])
        picked(live, [(0, 1), (0, 2)])
        self.assertEqual(live.take(0), 1)
        self.assertEqual(live.done_cuts(), [((1,), [[(1, 4), (2, 3)]])])
        self.assertEqual([live.points(0), live.sure(), live.marks(), live.in_hand()], [[0, 1], (1,), [], None])

    def test_several_ways_alike(self):
        live = Marked(net_of(2, [(0, 1), (1, 0), (0, 1), (1, 0)], [(0, 1), (2, 2), (1, 3), (3, 4)], 2))
        picked(live, [(0, 0)])
        self.assertEqual([live.mark(1), live.marks()], [1, [(1, 2), (3, 2)]])
        picked(live, [(1, 0), (1, 1)])
        self.assertEqual([live.take(1), live.in_hand()], [2, [2, 1]])
        self.assertEqual(live.marks(), [(0, 3), (2, 3), (3, 2)])
        take_all(live)
        self.assertEqual([counts for counts, lists in live.done_cuts()], [(2, 1)])
        lists = [[number for number, said in letters] for letters in live.done_cuts()[0][1]]
        self.assertEqual(lists, [[1, 2], [], [0, 1, 2], [0, 1]])

    def test_rings_and_meshes(self):
        for net in (ring(2), ring(3), ring(5), mesh(2), mesh(3)):
            many = len(net.machines())
            for m in range(many):
                live = Marked(net)
                chance = random.Random(m)
                for turn in range(6):
                    pick_any(chance, live)
                self.assertEqual(live.mark(m), live.run().count(m))
                taken = take_all(live)
                self.assertEqual(sorted(way for way, c in taken), list(range(len(net.ways()))))
                self.check_done(live)
                counts = live.done_cuts()[0][0]
                self.assertEqual([c for way, c in taken], [counts[net.ways()[way][1]] for way, c in taken])

    def check_done(self, live):
        run = live.run()
        for done in live.done_cuts():
            counts, lists = done
            self.assertEqual([type(done), type(counts), type(lists)], [tuple, tuple, list])
            self.assertEqual([type(letters) for letters in lists], [list] * len(lists))
            self.assertEqual(orphans_of(run, counts), [])
            self.assertEqual(lists, lying_at(run, counts))
        for m in machines_of(live):
            self.assertEqual(live.points(m), sorted({0} | {counts[m] for counts, lists in live.done_cuts()}))
        if live.done_cuts():
            self.assertEqual(live.sure(), live.done_cuts()[-1][0])

    def test_one_cut_after_another(self):
        live = Marked(ring(3))
        for turn in range(5):
            live.mark(turn % 3)
            pick_any(random.Random(turn), live)
            take_all(live)
            self.assertEqual(len(live.done_cuts()), turn + 1)
            self.check_done(live)

    def test_nothing_of_a_cut_is_a_point_till_it_is_done(self):
        live = picked(Marked(two_counters()), [(1, 0), (0, 0)])
        live.mark(0)
        picked(live, [(0, 1)])
        self.assertEqual([live.take(0), live.points(0), live.points(1), live.sure()], [2, [0], [0], (0, 0)])
        picked(live, [(1, 1), (1, 2), (1, 3), (1, 4)])
        self.assertEqual([live.points(0), live.points(1)], [[0], [0]])
        self.assertEqual(live.take(1), 1)
        self.assertEqual([live.points(0), live.points(1), live.sure()], [[0, 1], [0, 2], (1, 2)])

    def test_many_cuts(self):
        done = 0
        for seed in range(40):
            chance = random.Random(seed)
            live = Marked(lively_net(chance, 5, sorts=("row",)))
            for turn in range(40):
                if live.in_hand() is None and chance.randrange(3) == 0:
                    live.mark(chance.choice(machines_of(live)))
                for way, number in live.marks():
                    lying = live.run().lying(way)
                    if chance.randrange(2) and (not lying or lying[0][0] >= number):
                        live.take(way)
                picks = [(way, live.run().lying(way)[0][0]) for way in range(len(live.net().ways()))
                         if live.run().lying(way) and live.run().lying(way)[0][0] < dict(live.marks()).get(way, BIG)]
                if picks:
                    live.pick(*chance.choice(picks))
                self.assertEqual(live.in_hand() is None, live.marks() == [])
            self.check_done(live)
            done += len(live.done_cuts())
        self.assertGreater(done, 50)


class StopTest(unittest.TestCase):
    def setUp(self):
        self.live = picked(Marked(ring(2)), [(0, 0)])
        self.live.mark(0)
        take_all(self.live)
        picked(self.live, [(0, 1), (1, 2)])

    def test_of_one_or_more_takes_the_cut_in_hand_away(self):
        for stopped in ([0], [1], [0, 1]):
            self.setUp()
            self.assertEqual(self.live.mark(1), self.live.run().count(1))
            self.live.stop(stopped)
            self.assertEqual([self.live.marks(), self.live.in_hand()], [[], None])
            for way in (0, 1):
                with self.assertRaises(NoMark):
                    self.live.take(way)
            self.live.mark(0)
            take_all(self.live)
            self.assertEqual(len(self.live.done_cuts()), 2)

    def test_of_none_does_not(self):
        self.live.mark(1)
        before = told_live(self.live)
        self.assertEqual(self.live.stop([]), (counts_of(self.live.run()), []))
        self.assertEqual(told_live(self.live), before)
        take_all(self.live)
        self.assertEqual(len(self.live.done_cuts()), 2)

    def test_a_refused_stop_does_not(self):
        self.live.mark(1)
        before = told_live(self.live)
        for stopped in ([2], [0, 0], [0, None], [True]):
            with self.assertRaises(NoMachine):
                self.live.stop(stopped)
        self.assertEqual(told_live(self.live), before)

    def test_letters_that_a_mark_held_up_may_be_picked(self):
        live = picked(Marked(net_of(2, [(0, 1), (1, 0)], [(1, 7), (1, 8)])), [(1, 0)])
        live.mark(0)
        picked(live, [(1, 1), (0, 0)])
        self.assertEqual([live.marks(), live.run().lying(0)], [[(0, 1)], [(1, 15)]])
        with self.assertRaises(NotFirst):
            live.pick(0, 1)
        live.settle()
        self.assertEqual(live.pick(0, 1), (1, 2))
        live.mark(0)
        picked(live, [(1, 2)])
        with self.assertRaises(NotFirst):
            live.pick(0, 2)
        # Machine 1 goes back to where it was settled; the letter that it worked on since lies there again.
        self.assertEqual(live.stop([1])[0], (3, 1))
        picked(live, [(0, 1), (0, 2)])
        self.assertEqual(live.run().count(1), 3)

    def test_the_line_is_nowhere_below_the_cut_done_last(self):
        counts = self.live.done_cuts()[-1][0]
        line = self.live.stop([0, 1])[0]
        self.assertEqual([line, self.live.sure(), counts_of(self.live.run())], [counts] * 3)
        self.assertEqual(len(self.live.done_cuts()), 1)

    def test_others_stay_where_they_stand_if_they_can(self):
        live = Marked(net_of(2, [(0, 1), (1, 0)], [(0, 1), (0, 2), (1, 3)]))
        picked(live, [(0, 0), (0, 1)])
        self.assertEqual(live.stop([0]), ((0, 2), []))
        self.assertEqual(live.stop([1]), ((0, 0), []))


class LetGoTest(unittest.TestCase):
    def test_letting_go(self):
        live = Marked(ring(2))
        for turn in range(3):
            pick_any(random.Random(turn), live)
            live.mark(turn % 2)
            take_all(live)
        cuts = live.done_cuts()
        self.assertGreater(cuts[2][0], cuts[1][0])
        points = [live.points(0), live.points(1)]
        live.mark(0)
        hand, marks = live.in_hand(), live.marks()
        self.assertEqual(live.let_go(), [[c for c in points[m] if c < cuts[2][0][m]] for m in (0, 1)])
        self.assertEqual([live.points(0), live.points(1)], [[c] for c in cuts[2][0]])
        self.assertEqual([live.let_go(), live.sure()], [[[], []], cuts[2][0]])
        self.assertEqual([live.done_cuts(), live.in_hand(), live.marks()], [cuts, hand, marks])
        take_all(live)
        self.assertEqual(live.done_cuts()[:3], cuts)
        self.assertEqual([live.points(0)[0], live.points(1)[0]], list(cuts[2][0]))

    def test_nothing_to_let_go(self):
        live = picked(Marked(ring(2)), [(0, 0)])
        live.mark(0)
        self.assertEqual([live.let_go(), live.points(0), live.points(1)], [[[], []], [0], [0]])

    def test_settling(self):
        live = picked(Marked(to_and_fro(0).net()), to_and_fro(2).schedule())
        self.assertEqual(live.settle(), (2, 2))
        self.assertEqual(live.done_cuts(), [((2, 2), [[], live.run().lying(1)])])
        self.assertEqual([live.points(0), live.points(1), live.sure()], [[0, 2], [0, 2], (2, 2)])

    def test_settling_takes_the_cut_in_hand_away(self):
        live = picked(Marked(two_counters()), [(1, 0), (0, 0)])
        live.mark(0)
        live.pick(0, 1)
        self.assertEqual([live.settle(), live.marks(), live.in_hand()], [(1, 2), [], None])
        with self.assertRaises(NoMark):
            live.take(0)
        self.assertEqual([counts for counts, lists in live.done_cuts()], [(1, 2)])
        self.assertEqual(live.mark(1), 2)

    def test_settling_does_a_cut_each_time(self):
        live = picked(Marked(two_counters()), [(1, 0)])
        lists = [live.run().lying(0), live.run().lying(1)]
        for turn in range(3):
            self.assertEqual(live.settle(), (1, 0))
            self.assertEqual(live.done_cuts(), [((1, 0), lists)] * (turn + 1))
        self.assertEqual([live.points(0), live.points(1)], [[0, 1], [0]])
        self.assertEqual(live.stop([0, 1]), ((1, 0), []))


class NothingKeptTest(unittest.TestCase):
    def test_lists_told_may_be_changed(self):
        live = Marked(two_counters())
        live.settle()
        live.mark(0)
        before = told_live(live)
        done = live.done_cuts()
        for told in (live.marks(), live.in_hand(), live.points(0), live.reach(0), done[0][1][0], done[0][1], done):
            told.append("more")
            told.reverse()
        self.assertEqual(told_live(live), before)

    def test_lists_told_do_not_grow(self):
        live = Marked(two_counters())
        told = [live.marks(), live.in_hand(), live.done_cuts()]
        live.settle()
        live.mark(0)
        hand = live.in_hand()
        before = copied(hand)
        live.pick(0, 0)
        live.take(0)
        self.assertEqual([told, hand], [[[], None, []], before])

    def test_two_live_nets_of_one_net(self):
        net = two_counters()
        one, other = Marked(net), Marked(net)
        before = told_live(other)
        one.mark(0)
        one.settle()
        one.mark(1)
        self.assertEqual(told_live(other), before)
        self.assertEqual(all_told(one.run()), all_told(other.run()))


if __name__ == "__main__":
    unittest.main()
