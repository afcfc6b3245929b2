"""[9] runs, picks and schedules, [10] what is told of a run."""

import random
import unittest

from cutrestore.errors import NetError, NoCount, NoLetter, NoMachine, NotFirst
from cutrestore.machines import Machine
from cutrestore.nets import Net
from cutrestore.runs import Run, played_run
from things import BIG, all_told, copied, counter, picks_that_may_be, plainly_played, random_run, two_counters


class BeginTest(unittest.TestCase):
    def test_a_run_begins(self):
        net = two_counters()
        run = Run(net)
        self.assertIs(run.net(), net)
        self.assertEqual([run.count(0), run.count(1)], [0, 0])
        self.assertEqual([run.state(0), run.state(1)], [((0,), ()), ((50,), ())])
        self.assertEqual([run.words(0), run.words(1)], [[], []])
        self.assertEqual(run.schedule(), [])

    def test_first_letters_are_put_in_order(self):
        run = Run(two_counters())
        self.assertEqual(run.lying(0), [(0, 8)])
        self.assertEqual(run.lying(1), [(0, 3), (1, 4), (2, -1)])
        self.assertEqual([run.put_many(0), run.put_many(1)], [1, 3])
        self.assertEqual([run.said(1, number) for number in range(3)], [3, 4, -1])
        self.assertEqual([run.sent_by(1, number) for number in range(3)], [None] * 3)
        self.assertEqual([run.worked_by(1, number) for number in range(3)], [None] * 3)

    def test_a_first_letter_says_just_what_it_said(self):
        run = Run(Net([counter(2)], [(0, 0, "heap")], [(0, 10 ** 60 - 1), (0, 1 - 10 ** 60)]))
        self.assertEqual(run.lying(0), [(0, 10 ** 60 - 1), (1, 1 - 10 ** 60)])


class PickTest(unittest.TestCase):
    def refused(self, error, run, way, number):
        before = all_told(run)
        with self.subTest((way, number)), self.assertRaises(error) as told:
            run.pick(way, number)
        self.assertEqual(told.exception.at, 0)
        self.assertEqual(all_told(run), before)

    def test_the_event_is_told(self):
        run = Run(two_counters())
        events = [run.pick(1, 0), run.pick(0, 0), run.pick(1, 1), run.pick(0, 1)]
        self.assertEqual(events, [(0, 1), (1, 1), (0, 2), (1, 2)])
        self.assertIsInstance(events[0], tuple)

    def test_what_is_told_behind_picks(self):
        run = Run(two_counters())
        for pick in [(1, 0), (0, 0), (1, 1), (0, 1)]:
            run.pick(*pick)
        self.assertEqual(run.schedule(), [(1, 0), (0, 0), (1, 1), (0, 1)])
        self.assertEqual([run.count(0), run.count(1)], [2, 2])
        self.assertEqual([run.state(0), run.state(1)], [((7,), ()), ((61,), ())])
        self.assertEqual([run.words(0), run.words(1)], [[3, 7], [58, 61]])
        self.assertEqual(run.lying(0), [(2, 7)])
        self.assertEqual(run.lying(1), [(2, -1), (3, 58), (4, 61)])
        self.assertEqual([run.put_many(0), run.put_many(1)], [3, 5])
        self.assertEqual([run.said(0, number) for number in range(3)], [8, 3, 7])
        self.assertEqual([run.sent_by(0, number) for number in range(3)], [None, (0, 1), (0, 2)])
        self.assertEqual([run.sent_by(1, number) for number in range(5)], [None, None, None, (1, 1), (1, 2)])
        self.assertEqual([run.worked_by(0, number) for number in range(3)], [(1, 1), (1, 2), None])
        self.assertEqual([run.worked_by(1, number) for number in range(5)], [(0, 1), (0, 2), None, None, None])

    def test_behind_counts(self):
        run = played_run(two_counters(), [(1, 0), (0, 0), (1, 1), (0, 1)])
        self.assertEqual([run.state_behind(0, c) for c in range(3)], [((0,), ()), ((3,), ()), ((7,), ())])
        self.assertEqual([run.words_behind(0, c) for c in range(3)], [[], [3], [3, 7]])
        self.assertEqual([run.state_behind(1, c) for c in range(3)], [((50,), ()), ((58,), ()), ((61,), ())])
        self.assertEqual([run.words_behind(1, c) for c in range(3)], [[], [58], [58, 61]])

    def test_words_of_events_with_none_or_several(self):
        deeds = [("skip", ("letter",), ("is", 1), 3), ("say", ("letter",)), ("say", ("is", 9)), ("say", ("is", 9))]
        net = Net([Machine(10, [0], [], deeds)], [(0, 0, "row")], [(0, 0), (0, 5), (0, 0), (0, 6)])
        run = played_run(net, [(0, 0), (0, 1), (0, 2), (0, 3)])
        words = [[], [], [5, 9, 9], [5, 9, 9], [5, 9, 9, 6, 9, 9]]
        self.assertEqual([run.words_behind(0, c) for c in range(5)], words)

    def test_no_letter_there(self):
        for sort in ("row", "heap"):
            run = Run(two_counters(sort))
            run.pick(1, 0)
            for way, number in [(1, 0), (1, 3), (1, -1), (1, -3), (0, 2), (0, BIG), (0, -BIG), (1, BIG)]:
                self.refused(NoLetter, run, way, number)
            for way, number in [(2, 0), (-1, 0), (-2, 0), (BIG, 0), (-BIG, 0), (10, 10), (-1, -1), (2, BIG)]:
                self.refused(NoLetter, run, way, number)

    def test_a_net_without_ways(self):
        run = Run(Net([counter()], [], []))
        self.refused(NoLetter, run, 0, 0)

    def test_not_first_on_a_row(self):
        run = Run(two_counters("row"))
        self.refused(NotFirst, run, 1, 1)
        self.refused(NotFirst, run, 1, 2)
        run.pick(1, 0)
        self.refused(NotFirst, run, 1, 2)
        self.refused(NotFirst, run, 0, 1)
        run.pick(1, 1)
        self.assertEqual(run.pick(1, 2), (0, 3))

    def test_any_letter_of_a_heap(self):
        run = Run(two_counters("heap"))
        self.assertEqual(run.pick(1, 2), (0, 1))
        self.assertEqual(run.lying(1), [(0, 3), (1, 4)])
        self.assertEqual(run.pick(1, 0), (0, 2))
        self.assertEqual(run.lying(1), [(1, 4)])
        self.refused(NoLetter, run, 1, 0)
        self.assertEqual(run.pick(0, 2), (1, 1))
        self.assertEqual(run.lying(0), [(0, 8), (1, 9)])
        self.assertEqual(run.worked_by(0, 2), (1, 1))

    def test_a_row_beside_a_heap(self):
        net = Net([counter()], [(0, 0, "heap"), (0, 0, "row")], [(0, 1), (0, 2), (1, 1), (1, 2)])
        run = Run(net)
        run.pick(0, 1)
        self.refused(NotFirst, run, 1, 1)
        run.pick(1, 0)
        run.pick(1, 1)
        run.pick(0, 0)

    def test_a_way_to_oneself(self):
        run = Run(Net([counter(10)], [(0, 0, "row")], [(0, 1)]))
        for number in range(4):
            self.assertEqual(run.pick(0, number), (0, number + 1))
        self.assertEqual(run.words(0), [1, 2, 4, 8])
        self.assertEqual(run.lying(0), [(4, 8)])

    def test_a_send_by_no_way_puts_nothing(self):
        deeds = [("send", 2, ("is", 2)), ("send", 1, ("is", 1)), ("send", BIG, ("is", 3)), ("send", 0, ("is", 4))]
        net = Net([Machine(7, [0], [], deeds), counter()], [(0, 1, "row"), (1, 0, "row"), (0, 1, "heap")], [(1, 5)])
        run = Run(net)
        self.assertEqual(run.pick(1, 0), (0, 1))
        self.assertEqual([run.lying(0), run.lying(1), run.lying(2)], [[(0, 4)], [], [(0, 1)]])
        self.assertEqual([run.put_many(way) for way in range(3)], [1, 1, 1])

    def test_what_is_sent_is_put_in_order(self):
        deeds = [("send", 0, ("is", 3)), ("send", 1, ("is", 4)), ("send", 0, ("is", 5)), ("send", 0, ("is", 1))]
        net = Net([Machine(7, [0], [], deeds)], [(0, 0, "row"), (0, 0, "row")], [(0, 6)])
        run = Run(net)
        run.pick(0, 0)
        self.assertEqual([run.lying(0), run.lying(1)], [[(1, 3), (2, 5), (3, 1)], [(0, 4)]])
        self.assertEqual([run.sent_by(0, 3), run.sent_by(1, 0)], [(0, 1), (0, 1)])

    def test_the_way_is_told_by_its_place_among_the_ways_in(self):
        machine = Machine(7, [0], [], [("say", ("way",))])
        ways = [(0, 1, "row"), (1, 0, "row"), (0, 1, "heap"), (1, 1, "row")]
        run = Run(Net([machine, machine], ways, [(0, 0), (1, 0), (2, 0), (3, 0)]))
        for way in (3, 2, 1, 0):
            run.pick(way, 0)
        self.assertEqual([run.words(0), run.words(1)], [[0], [2, 1, 0]])

    def test_one_machine_at_two_places(self):
        machine = counter(10)
        run = Run(Net([machine, machine], [(0, 1, "row")], [(0, 3)]))
        run.pick(0, 0)
        self.assertEqual([run.state(0), run.state(1)], [((0,), ()), ((3,), ())])
        self.assertEqual([run.words(0), run.words(1)], [[], [3]])


class ToldTest(unittest.TestCase):
    def setUp(self):
        self.run_told = played_run(two_counters(), [(1, 0), (0, 0), (1, 1)])

    def test_no_machine(self):
        run = self.run_told
        for m in (-1, -2, 2, 5, BIG, -BIG):
            for ask in (run.count, run.state, run.words):
                with self.assertRaises(NoMachine):
                    ask(m)
            for ask in (run.state_behind, run.words_behind):
                for c in (0, -1, 3, BIG):
                    with self.assertRaises(NoMachine):
                        ask(m, c)

    def test_no_count(self):
        run = self.run_told
        for m, most in ((0, 2), (1, 1)):
            run.state_behind(m, most)
            run.words_behind(m, most)
            for c in (-1, -2, most + 1, most + 2, BIG, -BIG):
                for ask in (run.state_behind, run.words_behind):
                    with self.assertRaises(NoCount):
                        ask(m, c)

    def test_no_way(self):
        run = self.run_told
        for way in (-1, -2, 2, 10, BIG, -BIG):
            for ask in (run.lying, run.put_many):
                self.no_letter(ask, way)
            for ask in (run.said, run.sent_by, run.worked_by):
                self.no_letter(ask, way, 0)
                self.no_letter(ask, way, BIG)

    def test_not_put(self):
        run = self.run_told
        for way in (0, 1):
            for number in (-1, -2, run.put_many(way), run.put_many(way) + 1, BIG, -BIG):
                for ask in (run.said, run.sent_by, run.worked_by):
                    self.no_letter(ask, way, number)

    def no_letter(self, ask, *numbers):
        with self.assertRaises(NoLetter) as told:
            ask(*numbers)
        self.assertEqual(told.exception.at, 0)

    def test_kinds(self):
        run = self.run_told
        for told in (run.words(0), run.lying(0), run.schedule(), run.words_behind(0, 1)):
            self.assertIsInstance(told, list)
        for told in (run.state(0), run.state_behind(0, 1), run.sent_by(0, 1), run.worked_by(0, 0), run.lying(1)[0]):
            self.assertIsInstance(told, tuple)
        self.assertIsInstance(run.schedule()[0], tuple)


class PlayedTest(unittest.TestCase):
    def at_of(self, error, schedule, sort="row"):
        with self.assertRaises(error) as told:
            played_run(two_counters(sort), schedule)
        return told.exception.at

    def test_nothing_played(self):
        net = two_counters()
        run = played_run(net, [])
        self.assertIs(run.net(), net)
        self.assertEqual(all_told(run), all_told(Run(net)))

    def test_played_like_picked(self):
        schedule = [(1, 0), (0, 0), (1, 1), (0, 1), (1, 2)]
        run = Run(two_counters())
        for pick in schedule:
            run.pick(*pick)
        played = played_run(two_counters(), schedule)
        self.assertIsInstance(played, Run)
        self.assertEqual(all_told(played), all_told(run))
        self.assertEqual(played.pick(1, 3), (0, 4))

    def test_at_is_the_number_in_the_schedule(self):
        self.assertEqual(self.at_of(NoLetter, [(2, 0)]), 0)
        self.assertEqual(self.at_of(NoLetter, [(1, 0), (1, 0)]), 1)
        self.assertEqual(self.at_of(NoLetter, [(1, 0), (0, 0), (1, 1), (0, 9), (0, 9)]), 3)
        self.assertEqual(self.at_of(NoLetter, [(1, 0), (-1, -BIG), (1, 2)]), 1)
        self.assertEqual(self.at_of(NotFirst, [(1, 1)]), 0)
        self.assertEqual(self.at_of(NotFirst, [(1, 0), (0, 0), (1, 2), (9, 9)]), 2)
        self.assertEqual(self.at_of(NoLetter, [(1, 2), (1, 0), (1, 2)], "heap"), 2)

    def test_a_pick_by_itself_is_at_0_whatever_was_played(self):
        run = played_run(two_counters(), [(1, 0), (0, 0), (1, 1)])
        for way, number, error in ((1, 0, NoLetter), (1, 3, NotFirst)):
            with self.assertRaises(error) as told:
                run.pick(way, number)
            self.assertEqual(told.exception.at, 0)

    def test_a_long_schedule(self):
        run = Run(Net([counter(1000, 1, 2)], [(0, 0, "row"), (0, 0, "heap")], [(0, 1)]))
        for number in range(120):
            run.pick(0, number)
        self.assertEqual(all_told(played_run(run.net(), run.schedule())), all_told(run))


class ManyRunsTest(unittest.TestCase):
    def test_each_count_is_what_a_beginning_leads_to(self):
        for seed in range(25):
            run = random_run(random.Random(seed), 25)
            schedule = run.schedule()
            for many in range(len(schedule) + 1):
                begun = played_run(run.net(), schedule[:many])
                for m in range(len(run.net().machines())):
                    self.assertEqual(run.state_behind(m, begun.count(m)), begun.state(m))
                    self.assertEqual(run.words_behind(m, begun.count(m)), begun.words(m))

    def test_events_and_letters_fit_the_machines(self):
        for seed in range(25, 50):
            run = random_run(random.Random(seed), 25)
            self.check_letters(run)

    def check_letters(self, run):
        net = run.net()
        sent = {way: [] for way in range(len(net.ways()))}
        for way, said in net.letters():
            sent[way].append((said, None))
        worked = {}
        states = [machine.first_state() for machine in net.machines()]
        counts = [0] * len(states)
        for way, number in run.schedule():
            m = net.ways()[way][1]
            told = net.machines()[m].worked(states[m], net.ways_in(m).index(way), sent[way][number][0])
            counts[m] += 1
            states[m] = told[0]
            worked[(way, number)] = (m, counts[m])
            for j, said in told[1]:
                if j in range(len(net.ways_out(m))):
                    sent[net.ways_out(m)[j]].append((said, (m, counts[m])))
        self.assertEqual([run.count(m) for m in range(len(counts))], counts)
        self.assertEqual([run.state(m) for m in range(len(states))], states)
        for way, letters in sent.items():
            numbers = range(run.put_many(way))
            self.assertEqual([(run.said(way, n), run.sent_by(way, n)) for n in numbers], letters)
            self.assertEqual([run.worked_by(way, n) for n in numbers], [worked.get((way, n)) for n in numbers])
            lying = [(n, letters[n][0]) for n in numbers if (way, n) not in worked]
            self.assertEqual(run.lying(way), lying)

    def test_plainly_played_it_leads_there(self):
        for seed in range(60):
            run = random_run(random.Random(seed), 20)
            states, words, lying = plainly_played(run.net(), run.schedule())
            self.assertEqual(states, [run.state(m) for m in range(len(states))])
            self.assertEqual(words, [run.words(m) for m in range(len(states))])
            self.assertEqual(lying, [run.lying(way) for way in range(len(lying))])

    def test_refused_picks_change_nothing(self):
        run = random_run(random.Random(3), 15)
        before = all_told(run)
        may_be = picks_that_may_be(run)
        for way in range(-2, 12):
            for number in range(-2, 30):
                if (way, number) not in may_be:
                    with self.assertRaises(NetError):
                        run.pick(way, number)
        self.assertEqual(all_told(run), before)


class NothingKeptTest(unittest.TestCase):
    def test_two_runs_of_one_net(self):
        net = two_counters()
        one, other = Run(net), Run(net)
        before = all_told(other)
        one.pick(1, 0)
        one.pick(0, 0)
        self.assertEqual(all_told(other), before)
        self.assertEqual(all_told(Run(net)), before)
        other.pick(0, 0)
        self.assertEqual(one.schedule(), [(1, 0), (0, 0)])
        self.assertEqual(net.letters(), two_counters().letters())

    def test_what_is_handed_in_stays_and_may_be_changed(self):
        schedule = [(1, 0), (0, 0)]
        before = copied(schedule)
        run = played_run(two_counters(), schedule)
        self.assertEqual(schedule, before)
        schedule.append((1, 1))
        self.assertEqual(run.schedule(), before)
        run.pick(1, 1)
        self.assertEqual(schedule, before + [(1, 1)])

    def test_lists_told_may_be_changed(self):
        run = played_run(two_counters(), [(1, 0), (0, 0), (1, 1)])
        before = all_told(run)
        for told in (run.words(0), run.lying(0), run.lying(1), run.schedule(), run.words_behind(0, 2)):
            told.append("more")
            told.reverse()
            told.pop()
            told.clear()
        self.assertEqual(all_told(run), before)
        run.pick(0, 1)
        self.assertEqual(run.schedule(), [(1, 0), (0, 0), (1, 1), (0, 1)])

    def test_a_told_list_does_not_grow(self):
        run = Run(two_counters())
        told = [run.words(0), run.lying(0), run.schedule()]
        before = copied(told)
        run.pick(1, 0)
        self.assertEqual(told, before)


if __name__ == "__main__":
    unittest.main()
