"""[20] keeps with numbers."""

import random
import unittest

from cutrestore.cuts import orphans_of
from cutrestore.errors import NoLetter, NoMachine
from cutrestore.live import Live
from cutrestore.nets import Net
from cutrestore.numbered import Numbered
from things import BIG, counter, lively_net, machines_of, pick_any, picked, to_and_fro, told_live
from things import two_counters


def to_and_fro_live(many):
    """A letter went to and fro so many times, and nothing was kept."""
    return picked(Numbered(to_and_fro(0).net()), to_and_fro(many).schedule())


def numbers_of(live):
    return [live.number_of(m) for m in machines_of(live)]


class NumberTest(unittest.TestCase):
    def test_it_is_a_live_net(self):
        net = two_counters()
        live = Numbered(net)
        self.assertIsInstance(live, Live)
        self.assertIs(live.net(), net)

    def test_at_first(self):
        live = Numbered(two_counters())
        self.assertEqual([numbers_of(live), live.keeps(0), live.keeps(1)], [[0, 0], [], []])
        self.assertEqual([live.points(0), live.points(1)], [[0], [0]])
        self.assertEqual([live.borne(1, 0), live.borne(1, 2), live.borne(0, 0)], [0, 0, 0])

    def test_told_to_keep_it_is_greater_by_1(self):
        live = picked(Numbered(two_counters()), [(1, 0)])
        self.assertEqual([live.keep(0), live.keep(0)], [1, 2])
        self.assertEqual([numbers_of(live), live.keeps(0), live.points(0)], [[2, 0], [(1, 1), (1, 2)], [0, 1]])
        live.pick(1, 1)
        self.assertEqual(live.keep(0), 3)
        self.assertEqual([live.keeps(0), live.points(0)], [[(1, 1), (1, 2), (2, 3)], [0, 1, 2]])
        self.assertEqual([live.keeps(1), live.points(1)], [[], [0]])

    def test_kept_at_the_beginning(self):
        live = Numbered(two_counters())
        self.assertEqual([live.keep(1), live.keeps(1), live.points(1)], [1, [(0, 1)], [0]])

    def test_letters_bear_the_number_of_their_sender(self):
        live = picked(Numbered(two_counters()), [(1, 0)])
        live.keep(0)
        live.pick(1, 1)
        live.keep(0)
        live.keep(0)
        live.pick(1, 2)
        self.assertEqual([live.borne(0, number) for number in range(4)], [0, 0, 1, 3])
        live.keep(0)
        self.assertEqual([live.borne(0, number) for number in range(4)], [0, 0, 1, 3])

    def test_a_greater_number_makes_a_machine_keep_ahead_of_it(self):
        live = to_and_fro_live(1)
        live.keep(0)
        live.keep(0)
        live.pick(1, 1)
        self.assertEqual([live.borne(0, 1), live.keeps(1), live.number_of(1)], [2, [], 0])
        self.assertEqual(live.pick(0, 1), (1, 2))
        self.assertEqual([live.keeps(1), live.points(1), live.number_of(1)], [[(1, 2)], [0, 1], 2])
        # What it sends by that very event bears the number that it took.
        self.assertEqual(live.borne(1, 2), 2)

    def test_an_equal_or_a_lesser_number_does_not(self):
        live = to_and_fro_live(1)
        self.assertEqual([live.keeps(0), live.keeps(1)], [[], []])
        live.keep(0)
        live.keep(1)
        live.pick(1, 1)
        self.assertEqual([live.borne(0, 1), live.number_of(1)], [1, 1])
        live.pick(0, 1)
        self.assertEqual(live.keeps(1), [(1, 1)])
        live.pick(1, 2)
        live.keep(1)
        live.keep(1)
        live.pick(0, 2)
        self.assertEqual([live.keeps(1), live.points(1)], [[(1, 1), (2, 2), (2, 3)], [0, 1, 2]])
        self.assertEqual([live.keeps(0), live.borne(1, 3)], [[(1, 1)], 3])
        live.pick(1, 3)
        self.assertEqual([live.keeps(0), live.borne(0, 3)], [[(1, 1), (3, 3)], 3])

    def test_a_machine_that_sends_to_itself(self):
        live = Numbered(Net([counter(9)], [(0, 0, "row")], [(0, 1), (0, 2)]))
        live.keep(0)
        picked(live, [(0, 0), (0, 1)])
        live.keep(0)
        picked(live, [(0, 2), (0, 3)])
        self.assertEqual([live.borne(0, number) for number in range(6)], [0, 0, 1, 1, 2, 2])
        self.assertEqual([live.keeps(0), live.points(0)], [[(0, 1), (2, 2)], [0, 2]])

    def test_lesser_behind_greater_on_a_heap(self):
        live = picked(Numbered(two_counters("heap")), [(1, 0)])
        live.keep(0)
        live.pick(1, 1)
        live.pick(0, 2)
        self.assertEqual(live.keeps(1), [(0, 1)])
        picked(live, [(0, 1), (0, 0)])
        self.assertEqual([live.keeps(1), live.number_of(1)], [[(0, 1)], 1])


class RefusedTest(unittest.TestCase):
    def setUp(self):
        self.live = picked(Numbered(two_counters()), [(1, 0), (0, 0)])
        self.live.keep(0)
        self.live.pick(1, 1)
        self.before = told_live(self.live)

    def test_no_machine(self):
        for m in (-1, -2, 2, 3, 5, BIG, -BIG, 10 ** 60 - 1, 1 - 10 ** 60):
            for ask in (self.live.keep, self.live.number_of, self.live.keeps, self.live.points, self.live.reach):
                with self.subTest((ask, m)), self.assertRaises(NoMachine):
                    ask(m)
        self.assertEqual(told_live(self.live), self.before)

    def test_no_letter(self):
        letters = [(0, 3), (1, 5), (0, -1), (-1, 0), (2, 0), (BIG, 0), (0, BIG), (-BIG, -BIG), (0, 10 ** 60 - 1)]
        for way, number in letters:
            with self.subTest((way, number)), self.assertRaises(NoLetter) as told:
                self.live.borne(way, number)
            self.assertEqual(told.exception.at, 0)
        self.assertEqual(told_live(self.live), self.before)

    def test_a_refused_pick_takes_no_number_and_keeps_nothing(self):
        # The letter (0, 2) bears 1; (0, 1) lies ahead of it, and bears 0.
        self.assertEqual([self.live.borne(0, 1), self.live.borne(0, 2), self.live.number_of(1)], [0, 1, 0])
        for way, number in [(0, 2), (0, 0), (0, 3), (1, 3), (9, 0), (0, BIG)]:
            with self.subTest((way, number)), self.assertRaises(ValueError):
                self.live.pick(way, number)
            self.assertEqual(told_live(self.live), self.before)
        self.live.pick(0, 1)
        self.assertEqual(self.live.keeps(1), [])
        self.live.pick(0, 2)
        self.assertEqual(self.live.keeps(1), [(2, 1)])


class StopTest(unittest.TestCase):
    def test_keeps_behind_the_line_are_forgotten(self):
        live = to_and_fro_live(1)
        live.keep(0)
        picked(live, [(1, 1), (0, 1), (1, 2)])
        live.keep(1)
        live.keep(0)
        self.assertEqual([live.keeps(0), live.keeps(1)], [[(1, 1), (3, 2)], [(1, 1), (2, 2)]])
        live.pick(0, 2)
        self.assertEqual(live.stop([1])[0], (3, 2))
        self.assertEqual([live.keeps(0), live.keeps(1)], [[(1, 1), (3, 2)], [(1, 1), (2, 2)]])
        live = to_and_fro_live(1)
        live.keep(0)
        picked(live, [(1, 1), (0, 1), (1, 2)])
        live.keep(0)
        self.assertEqual([live.keeps(0), live.number_of(0)], [[(1, 1), (3, 2)], 2])
        self.assertEqual(live.stop([1])[0], (1, 1))
        self.assertEqual([live.keeps(0), live.keeps(1), numbers_of(live)], [[(1, 1)], [(1, 1)], [1, 1]])

    def test_without_a_keep_the_number_is_0(self):
        live = to_and_fro_live(1)
        live.keep(1)
        self.assertEqual(live.stop([0])[0], (0, 0))
        self.assertEqual([live.keeps(1), numbers_of(live), live.points(1)], [[], [0, 0], [0]])
        self.assertEqual(live.keep(1), 1)

    def test_a_keep_at_the_line_stays(self):
        live = to_and_fro_live(1)
        live.keep(0)
        live.keep(0)
        live.pick(1, 1)
        live.pick(0, 1)
        self.assertEqual(live.stop([0, 1])[0], (1, 1))
        self.assertEqual([live.keeps(0), live.keeps(1)], [[(1, 1), (1, 2)], [(1, 2)]])
        self.assertEqual(numbers_of(live), [2, 2])

    def test_letters_that_lie_there_bear_what_they_bore(self):
        live = picked(Numbered(two_counters()), [(1, 0)])
        live.keep(0)
        live.pick(1, 1)
        live.keep(0)
        live.pick(1, 2)
        picked(live, [(0, 0), (0, 1), (0, 2)])
        self.assertEqual([live.borne(0, n) for n in range(4)], [0, 0, 1, 2])
        self.assertEqual([live.borne(1, n) for n in range(6)], [0, 0, 0, 0, 0, 1])
        self.assertEqual(live.keeps(1), [(2, 1)])
        live.keep(1)
        # The event that sent (0, 3) is lost; (1, 5) was sent by an event that is not.
        self.assertEqual(live.stop([0])[0], (2, 3))
        self.assertEqual([live.borne(0, n) for n in range(3)], [0, 0, 1])
        self.assertEqual([live.borne(1, n) for n in range(6)], [0, 0, 0, 0, 0, 1])
        with self.assertRaises(NoLetter):
            live.borne(0, 3)
        # The event of the same name sends anew, and another number is borne.
        live.keep(0)
        live.keep(0)
        live.pick(1, 2)
        self.assertEqual(live.borne(0, 3), 4)
        self.assertEqual(live.keeps(0), [(1, 1), (2, 2), (2, 3), (2, 4)])

    def test_a_lesser_number_behind_a_stop(self):
        live = picked(Numbered(two_counters()), [(1, 0)])
        for turn in range(5):
            live.keep(0)
        live.pick(1, 1)
        self.assertEqual(live.borne(0, 2), 5)
        live.pick(0, 0)
        live.pick(0, 1)
        live.pick(0, 2)
        self.assertEqual([live.keeps(1), live.borne(1, 5)], [[(2, 5)], 5])
        live.stop([0, 1])
        self.assertEqual([live.keeps(0)[-1], live.keeps(1)], [(1, 5), [(2, 5)]])
        live.stop([1])
        self.assertEqual([numbers_of(live), live.run().count(1)], [[5, 5], 2])


class FirstCutTest(unittest.TestCase):
    def test_the_first_keep_or_where_it_stands(self):
        live = picked(Numbered(two_counters()), [(1, 0), (0, 0)])
        self.assertEqual([live.first_cut(n) for n in (1, 2, BIG)], [(1, 1)] * 3)
        live.keep(0)
        live.keep(0)
        picked(live, [(1, 1), (1, 2)])
        live.keep(0)
        self.assertEqual(live.keeps(0), [(1, 1), (1, 2), (3, 3)])
        self.assertEqual([live.first_cut(n) for n in (1, 2, 3, 4)], [(1, 1), (1, 1), (3, 1), (3, 1)])
        live.pick(0, 1)
        self.assertEqual([live.first_cut(n) for n in (1, 2, 3, 4)], [(1, 2), (1, 2), (3, 2), (3, 2)])
        live.pick(0, 2)
        self.assertEqual(live.keeps(1), [(2, 2)])
        self.assertEqual([live.first_cut(n) for n in (1, 2, 3, 4)], [(1, 2), (1, 2), (3, 3), (3, 3)])
        self.assertEqual([live.first_cut(10 ** 60 - 1), type(live.first_cut(1))], [(3, 3), tuple])

    def test_of_those_told(self):
        live = to_and_fro_live(1)
        live.settle()
        picked(live, [(1, 1), (0, 1)])
        live.settle()
        self.assertEqual([live.first_cut(1), live.first_cut(2), live.first_cut(3)], [(1, 1), (2, 2), (2, 2)])
        live.let_go()
        self.assertEqual([live.first_cut(1), live.first_cut(2), live.first_cut(3)], [(2, 2), (2, 2), (2, 2)])
        picked(live, [(1, 2)])
        self.assertEqual([live.first_cut(1), live.first_cut(2), live.first_cut(3)], [(2, 2), (2, 2), (3, 2)])

    def test_each_could_have_been_and_none_goes_back_behind_it(self):
        stops = 0
        for seed in range(60):
            chance = random.Random(seed)
            live = Numbered(lively_net(chance))
            machines = machines_of(live)
            for turn in range(30):
                pick_any(chance, live)
                if chance.randrange(4) == 0:
                    live.keep(chance.choice(machines))
                if chance.randrange(9) == 0:
                    stops += self.check_stop(live, chance.sample(machines, chance.randrange(1, len(machines) + 1)))
                if chance.randrange(12) == 0:
                    live.let_go()
                self.check_cuts(live)
        self.assertGreater(stops, 100)

    def check_cuts(self, live):
        run = live.run()
        for n in range(1, max(numbers_of(live)) + 3):
            cut = []
            for m in machines_of(live):
                counts = [c for c, number in live.keeps(m) if number >= n] + [run.count(m)]
                cut.append(counts[0])
            self.assertEqual(live.first_cut(n), tuple(cut))
            self.assertEqual(orphans_of(run, live.first_cut(n)), [])

    def check_stop(self, live, stopped):
        """Stop, and tell for how many numbers it was seen that none went back behind the cut."""
        numbers = range(1, max(numbers_of(live)) + 1)
        cuts = [live.first_cut(n) for n in numbers if all(live.number_of(m) >= n for m in stopped)]
        line = live.stop(stopped)[0]
        for cut in cuts:
            self.assertTrue(all(low <= high for low, high in zip(cut, line)), (cut, line))
        return len(cuts)


class LetGoTest(unittest.TestCase):
    def test_keeps_at_counts_that_went_are_told_no_more(self):
        live = to_and_fro_live(1)
        live.keep(0)
        live.keep(0)
        live.keep(1)
        picked(live, [(1, 1), (0, 1), (1, 2)])
        self.assertEqual([live.keeps(0), live.keeps(1)], [[(1, 1), (1, 2)], [(1, 1), (1, 2)]])
        live.keep(0)
        self.assertEqual([live.let_go(), live.keeps(0), live.keeps(1)], [
            [[0], [0]], [(1, 1), (1, 2), (3, 3)], [(1, 1), (1, 2)]])
        live.keep(1)
        live.keep(1)
        self.assertEqual([live.let_go(), live.keeps(0), live.keeps(1)], [[[1], [1]], [(3, 3)], [(2, 3), (2, 4)]])
        self.assertEqual([numbers_of(live), live.let_go(), live.sure()], [[3, 4], [[], []], (3, 2)])
        self.assertEqual([live.points(0), live.points(1)], [[3], [2]])
        self.assertEqual([live.borne(0, number) for number in range(3)], [0, 2, 2])
        live.pick(0, 2)
        self.assertEqual([live.stop([0, 1])[0], numbers_of(live)], [(3, 2), [3, 4]])

    def test_keeps_at_0_go_with_it(self):
        live = Numbered(two_counters())
        live.keep(0)
        picked(live, [(1, 0)])
        live.keep(0)
        self.assertEqual([live.let_go(), live.keeps(0), live.keeps(1)], [[[0], []], [(1, 2)], []])
        self.assertEqual([live.points(0), live.points(1), numbers_of(live)], [[1], [0], [2, 0]])

    def test_settled(self):
        live = to_and_fro_live(2)
        self.assertEqual([live.keep(0), live.keep(0)], [1, 2])
        self.assertEqual(live.settle(), (2, 2))
        self.assertEqual([live.keeps(0), live.keeps(1)], [[(2, 1), (2, 2), (2, 3)], [(2, 1)]])
        self.assertEqual([live.settle(), numbers_of(live), live.points(1)], [(2, 2), [4, 2], [0, 2]])
        self.assertEqual([live.sure(), live.stop([0, 1])], [(2, 2), ((2, 2), [])])


class NothingKeptTest(unittest.TestCase):
    def test_lists_told_may_be_changed(self):
        live = to_and_fro_live(2)
        live.settle()
        live.pick(1, 2)
        before = told_live(live)
        for told in (live.keeps(0), live.points(0), live.reach(0), live.history(), live.stop([])[1]):
            told.append("more")
            told.reverse()
        self.assertEqual(told_live(live), before)
        went = live.let_go()
        self.assertEqual(went, [[0], [0]])
        went[0].append(2)
        went.clear()
        self.assertEqual([live.points(0), live.let_go()], [[2], [[], []]])


if __name__ == "__main__":
    unittest.main()
