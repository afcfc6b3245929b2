"""[18] live nets and stops, and of [19] what Live itself does; by small classes under it."""

import random
import unittest

from cutrestore.cuts import parts_of_cut
from cutrestore.errors import Busy, NoLetter, NoLine, NoMachine, NotFirst
from cutrestore.lines import latest_line
from cutrestore.live import Live
from cutrestore.nets import Net
from cutrestore.runs import Run, played_run
from things import BIG, WRONG_THINGS, all_lines, all_told, copied, counter, counts_of, fallen, greatest_of, lively_net
from things import pick_any, picked, picks_that_may_be, to_and_fro, two_counters


class Plain(Live):
    """Nothing put otherwise."""

    def __init__(self, net):
        Live.__init__(self, net)


class Kept(Live):
    """Points by hand; writes down what it is asked, and what its history was then."""

    def __init__(self, net):
        Live.__init__(self, net)
        self.kept = [[0] for machine in net.machines()]
        self.asked = []

    def keep(self, m):
        self.kept[m] = sorted(set(self.kept[m] + [self.run().count(m)]))

    def points(self, m):
        if m not in range(len(self.kept)):
            raise NoMachine("none")
        return list(self.kept[m])

    def ahead_of(self, way, number):
        self.asked.append(("ahead_of", way, number, self.history()))

    def back_to(self, cut):
        self.asked.append(("back_to", cut, self.history()))
        self.kept = [[c for c in counts if c <= most] for counts, most in zip(self.kept, cut)]

    def let_below(self, cut):
        self.asked.append(("let_below", cut))
        went = [[c for c in counts if c < least] for counts, least in zip(self.kept, cut)]
        self.kept = [[c for c in counts if c >= least] for counts, least in zip(self.kept, cut)]
        return went

    def keep_all(self):
        self.asked.append(("keep_all",))
        for m in range(len(self.kept)):
            self.keep(m)


class Far(Kept):
    """Where it is not stopped a machine may go on at any count from its least point on."""

    def reach(self, m):
        return list(range(self.kept[m][0], self.run().count(m) + 1))


class Careful(Kept):
    """Refuses picks of the letters that it was told."""

    def __init__(self, net, refused):
        Kept.__init__(self, net)
        self.refused = refused

    def ahead_of(self, way, number):
        if (way, number) in self.refused:
            raise Busy("not that one")


def to_and_fro_net():
    return to_and_fro(0).net()


def to_and_fro_picks(many):
    return to_and_fro(many).schedule()


class WorkingTest(unittest.TestCase):
    def test_it_begins_as_a_run_does(self):
        net = two_counters()
        live = Plain(net)
        self.assertIs(live.net(), net)
        self.assertEqual(live.history(), [])
        self.assertEqual(all_told(live.run()), all_told(Run(net)))

    def test_it_works_as_a_run_does(self):
        for seed in range(12):
            chance = random.Random(seed)
            net = lively_net(chance)
            live, run = Plain(net), Run(net)
            for turn in range(20):
                picks = picks_that_may_be(run)
                if picks:
                    pick = chance.choice(picks)
                    self.assertEqual(live.pick(*pick), run.pick(*pick))
            self.assertEqual(live.history(), run.schedule())
            self.assertEqual(all_told(live.run()), all_told(run))

    def test_an_event_is_told(self):
        live = Plain(two_counters())
        events = [live.pick(1, 0), live.pick(0, 0), live.pick(1, 1)]
        self.assertEqual(events, [(0, 1), (1, 1), (0, 2)])
        self.assertIsInstance(events[0], tuple)

    def test_a_refused_pick_changes_nothing(self):
        live = picked(Kept(two_counters()), [(1, 0), (0, 0)])
        before, asked = copied(all_told(live.run())), list(live.asked)
        for error, way, number in [(NoLetter, 1, 0), (NoLetter, 9, 0), (NoLetter, -1, 0), (NoLetter, 0, BIG),
                                   (NoLetter, 1, -1), (NoLetter, BIG, BIG), (NotFirst, 1, 2), (NotFirst, 1, 3)]:
            with self.subTest((way, number)), self.assertRaises(error) as told:
                live.pick(way, number)
            self.assertEqual(told.exception.at, 0)
            self.assertEqual(all_told(live.run()), before)
            self.assertEqual(live.asked, asked)

    def test_run_is_a_new_run_each_time(self):
        live = picked(Plain(two_counters()), [(1, 0), (0, 0)])
        one, other = live.run(), live.run()
        self.assertIsInstance(one, Run)
        self.assertIsNot(one, other)
        self.assertIs(one.net(), live.net())
        before = copied(all_told(other))
        self.assertEqual(one.pick(1, 1), (0, 2))
        self.assertEqual(one.pick(0, 1), (1, 2))
        self.assertEqual(all_told(other), before)
        self.assertEqual(all_told(live.run()), before)
        self.assertEqual(live.history(), [(1, 0), (0, 0)])
        self.assertEqual(live.pick(0, 1), (1, 2))
        self.assertEqual(one.schedule(), [(1, 0), (0, 0), (1, 1), (0, 1)])

    def test_long(self):
        live = picked(Kept(to_and_fro_net()), to_and_fro_picks(100))
        self.assertEqual(len(live.run().schedule()), 200)
        live.keep(0)
        self.assertEqual(live.stop([0])[0], (100, 100))
        self.assertEqual(live.stop([1])[0], (0, 0))
        self.assertEqual(live.history(), [])


class AheadOfTest(unittest.TestCase):
    def test_asked_ahead_of_each_pick(self):
        live = picked(Kept(two_counters()), [(1, 0), (0, 0), (1, 1)])
        self.assertEqual(live.asked, [
            ("ahead_of", 1, 0, []), ("ahead_of", 0, 0, [(1, 0)]), ("ahead_of", 1, 1, [(1, 0), (0, 0)])])

    def test_what_it_refuses_is_refused(self):
        live = picked(Careful(two_counters(), [(1, 1)]), [(1, 0), (0, 0)])
        before = copied(all_told(live.run()))
        with self.assertRaises(Busy):
            live.pick(1, 1)
        self.assertEqual(all_told(live.run()), before)
        self.assertEqual(live.pick(0, 1), (1, 2))

    def test_refused_as_in_a_run_ahead_of_it(self):
        live = Careful(two_counters(), [(1, 1), (7, 7)])
        with self.assertRaises(NotFirst):
            live.pick(1, 1)
        with self.assertRaises(NoLetter):
            live.pick(7, 7)

    def test_not_asked_by_a_stop(self):
        live = picked(Kept(two_counters()), [(1, 0), (0, 0)])
        live.keep(0)
        live.asked.clear()
        live.stop([0])
        self.assertEqual([one[0] for one in live.asked], ["back_to"])


class PointsTest(unittest.TestCase):
    def test_if_nothing_is_put_otherwise(self):
        live = picked(Plain(two_counters()), [(1, 0), (0, 0), (1, 1)])
        self.assertEqual([live.points(0), live.points(1)], [[0], [0]])
        self.assertEqual([live.reach(0), live.reach(1)], [[0, 2], [0, 1]])
        self.assertEqual(live.sure(), (0, 0))
        self.assertEqual(live.let_go(), [[], []])
        self.assertEqual(live.settle(), (0, 0))
        self.assertEqual(live.history(), [(1, 0), (0, 0), (1, 1)])
        self.assertEqual(live.stop([0])[0], (0, 1))
        self.assertEqual(live.history(), [(0, 0)])

    def test_no_machine(self):
        for live in (Plain(two_counters()), Kept(two_counters())):
            for m in (-1, -2, 2, 5, BIG, -BIG):
                for ask in (live.points, live.reach):
                    with self.subTest((ask, m)), self.assertRaises(NoMachine):
                        ask(m)

    def test_reach_is_the_points_and_where_it_stands(self):
        live = Kept(two_counters())
        self.assertEqual(live.reach(0), [0])
        live.pick(1, 0)
        self.assertEqual([live.reach(0), live.reach(1)], [[0, 1], [0]])
        live.keep(0)
        self.assertEqual(live.reach(0), [0, 1])
        picked(live, [(1, 1), (1, 2)])
        self.assertEqual(live.reach(0), [0, 1, 3])
        self.assertEqual(live.points(0), [0, 1])


class StopTest(unittest.TestCase):
    def test_of_one(self):
        live = picked(Kept(to_and_fro_net()), to_and_fro_picks(2))
        live.keep(0)
        picked(live, [(1, 2), (0, 2)])
        # Machine 0 goes back to 2; machine 1 stood at 3 and has no point but 0.
        self.assertEqual(live.stop([0]), ((0, 0), [(1, 3, 0, (0, 2)), (0, 2, 0, (1, 1))]))
        self.assertEqual(live.history(), [])

    def test_others_stay_where_they_stand_if_they_can(self):
        live = picked(Kept(two_counters()), [(1, 0), (0, 0), (1, 1), (1, 2)])
        self.assertEqual(live.stop([0]), ((0, 1), []))
        self.assertEqual(live.history(), [(0, 0)])
        live = picked(Kept(two_counters()), [(1, 0), (0, 0), (1, 1), (1, 2)])
        self.assertEqual(live.stop([1]), ((3, 0), []))
        self.assertEqual(live.history(), [(1, 0), (1, 1), (1, 2)])

    def test_of_all(self):
        for stopped in ([0, 1], [1, 0]):
            live = picked(Kept(two_counters()), [(1, 0)])
            live.keep(0)
            picked(live, [(0, 0), (1, 1)])
            live.keep(1)
            live.pick(0, 1)
            self.assertEqual(live.stop(stopped), ((1, 1), []))
            self.assertEqual(live.history(), [(1, 0), (0, 0)])
            self.assertEqual([live.points(0), live.points(1)], [[0, 1], [0, 1]])

    def test_of_none_changes_nothing_at_all(self):
        live = picked(Kept(two_counters()), [(1, 0), (0, 0)])
        live.keep(0)
        live.asked.clear()
        before = copied(all_told(live.run()))
        told = live.stop([])
        self.assertEqual(told, ((1, 1), []))
        self.assertEqual([type(told), type(told[0]), type(told[1])], [tuple, tuple, list])
        self.assertEqual(all_told(live.run()), before)
        self.assertEqual([live.points(0), live.points(1), live.asked], [[0, 1], [0], []])

    def test_kinds(self):
        live = picked(Kept(to_and_fro_net()), to_and_fro_picks(2))
        told = live.stop([0])
        self.assertEqual([type(told), type(told[0]), type(told[1])], [tuple, tuple, list])
        self.assertEqual([type(told[1][0]), type(told[1][0][3])], [tuple, tuple])

    def test_letters_are_struck_out_lie_again_and_go_on(self):
        net = Net([counter(50), counter(50, 10)], [(0, 1, "heap"), (1, 0, "heap")], [(1, 1), (1, 2), (1, 3), (0, 5)])
        live = picked(Kept(net), [(1, 0)])
        live.keep(0)
        # The letters (0, 2) and (0, 3) are sent behind the point of machine 0, (0, 1) ahead of it.
        picked(live, [(1, 2), (0, 0), (0, 1), (1, 1), (0, 3)])
        run = live.run()
        self.assertEqual([run.put_many(0), run.worked_by(0, 3)], [4, (1, 3)])
        live.kept[1] = [0, 1]
        self.assertEqual(live.stop([0]), ((1, 1), [(1, 3, 1, (0, 3))]))
        run = live.run()
        self.assertEqual(run.lying(0), [(1, 1)])
        self.assertEqual(run.lying(1), [(1, 2), (2, 3), (3, 15)])
        self.assertEqual([run.put_many(0), run.put_many(1)], [2, 4])
        self.assertEqual([run.words(0), run.words(1)], [[1], [15]])
        for way, number in [(0, 2), (0, 3), (1, 4)]:
            with self.assertRaises(NoLetter):
                live.pick(way, number)
        # What is sent now has the numbers that were struck out.
        self.assertEqual(live.pick(1, 1), (0, 2))
        self.assertEqual(live.run().lying(0), [(1, 1), (2, 3)])
        self.assertEqual(live.run().sent_by(0, 2), (0, 2))
        self.assertEqual(live.pick(0, 2), (1, 2))
        self.assertEqual(live.history(), [(1, 0), (0, 0), (1, 1), (0, 2)])

    def test_points_of_the_stopped_and_reach_of_the_others(self):
        schedule = to_and_fro_picks(3)
        live = picked(Far(to_and_fro_net()), schedule)
        self.assertEqual(live.stop([0])[0], (0, 0))
        live = picked(Far(to_and_fro_net()), schedule[:2])
        live.keep(0)
        picked(live, schedule[2:])
        self.assertEqual(live.stop([0]), ((1, 1), [(1, 3, 1, (0, 1))]))
        live = picked(Far(to_and_fro_net()), schedule)
        live.kept[1] = [0, 2]
        self.assertEqual(live.stop([1])[0], (3, 2))

    def test_back_to_is_asked_when_a_stop_has_led_to_the_line(self):
        live = picked(Kept(two_counters()), [(1, 0), (0, 0), (1, 1)])
        live.keep(1)
        live.asked.clear()
        live.stop([0])
        self.assertEqual(live.asked, [("back_to", (0, 1), [(0, 0)])])
        self.assertEqual([live.points(0), live.points(1)], [[0], [0, 1]])
        live.stop([1])
        self.assertEqual(live.asked[1:], [("back_to", (0, 1), [(0, 0)])])
        live.stop([0, 1])
        self.assertEqual(len(live.asked), 3)

    def test_without_a_line_nothing_is_done(self):
        live = picked(Kept(to_and_fro_net()), to_and_fro_picks(3))
        live.kept = [[0], [2]]
        live.asked.clear()
        before = copied(all_told(live.run()))
        with self.assertRaises(NoLine):
            live.stop([0])
        with self.assertRaises(NoLine):
            live.sure()
        self.assertEqual([all_told(live.run()), live.asked], [before, []])


class NoMachineTest(unittest.TestCase):
    def setUp(self):
        self.live = picked(Kept(two_counters()), [(1, 0), (0, 0)])
        self.live.asked.clear()
        self.before = copied(all_told(self.live.run()))

    def refused(self, stopped):
        length = len(stopped)
        with self.subTest(stopped), self.assertRaises(NoMachine):
            self.live.stop(stopped)
        self.assertEqual(len(stopped), length)
        self.assertEqual([all_told(self.live.run()), self.live.asked], [self.before, []])

    def test_numbers_that_are_none(self):
        for m in (-1, -2, 2, 3, 5, BIG, -BIG, 10 ** 60 - 1):
            for stopped in ([m], [0, m], [m, 0], [0, 1, m], [m, m]):
                self.refused(stopped)

    def test_true_and_false(self):
        for stopped in ([True], [False], [0, True], [False, 1], [True, False], [1, True]):
            self.refused(stopped)

    def test_one_number_twice(self):
        for stopped in ([0, 0], [1, 1], [0, 1, 0], [1, 0, 1, 0], [0] * 200):
            self.refused(stopped)

    def test_things_that_are_no_numbers(self):
        for thing in WRONG_THINGS + ["0", "a", b"0", [0], (0,), {0: 0}]:
            if type(thing) is not int:
                self.refused([thing])
                self.refused([0, thing])
                self.refused([thing, 1])
                self.refused([thing, thing])


class SureTest(unittest.TestCase):
    def test_the_latest_line_of_the_points_alone(self):
        live = picked(Kept(to_and_fro_net()), to_and_fro_picks(1))
        self.assertEqual(live.sure(), (0, 0))
        live.keep(0)
        self.assertEqual(live.sure(), (1, 0))
        live.keep(1)
        self.assertEqual(live.sure(), (1, 1))
        self.assertIsInstance(live.sure(), tuple)
        picked(live, [(1, 1), (0, 1)])
        live.keep(1)
        self.assertEqual(live.sure(), (1, 1))
        live.pick(1, 2)
        live.keep(0)
        self.assertEqual(live.sure(), (3, 2))
        self.assertEqual(live.history(), [(1, 0), (0, 0), (1, 1), (0, 1), (1, 2)])

    def test_letting_go_asks_with_the_sure_line(self):
        live = picked(Kept(to_and_fro_net()), to_and_fro_picks(2))
        live.keep(0)
        live.keep(1)
        live.asked.clear()
        self.assertEqual(live.let_go(), [[0], [0]])
        self.assertEqual(live.asked, [("let_below", (2, 2))])
        self.assertEqual(live.let_go(), [[], []])
        self.assertEqual([live.points(0), live.points(1), live.sure()], [[2], [2], (2, 2)])
        self.assertEqual(live.history(), to_and_fro_picks(2))

    def test_settling_asks_and_tells_the_sure_line(self):
        live = picked(Kept(to_and_fro_net()), to_and_fro_picks(2))
        live.asked.clear()
        told = live.settle()
        self.assertEqual(told, (2, 2))
        self.assertIsInstance(told, tuple)
        self.assertEqual(live.asked, [("keep_all",)])
        self.assertEqual([live.points(0), live.points(1)], [[0, 2], [0, 2]])

    def test_nothing_is_kept_by_settling_itself(self):
        live = picked(Plain(two_counters()), [(1, 0), (0, 0)])
        self.assertEqual(live.settle(), (0, 0))
        self.assertEqual([live.points(0), live.points(1)], [[0], [0]])


class ManyStopsTest(unittest.TestCase):
    def check_stop(self, live, stopped):
        run = live.run()
        many = range(len(run.net().machines()))
        points = [live.points(m) if m in stopped else live.reach(m) for m in many]
        cut, falls = live.stop(stopped)
        self.assertEqual(cut, greatest_of(all_lines(run, points)))
        self.assertEqual(cut, latest_line(run, points)[0])
        self.assertEqual(fallen(run, points, [counts[-1] for counts in points], falls), cut)
        self.assertEqual(live.history(), parts_of_cut(run, cut)[0])
        self.assertEqual(all_told(live.run()), all_told(played_run(run.net(), live.history())))
        self.assertEqual(counts_of(live.run()), cut)

    def test_picks_keeps_and_stops(self):
        for seed in range(40):
            chance = random.Random(seed)
            net = lively_net(chance, 3, 3)
            live = (Kept if seed % 2 else Far)(net)
            machines = list(range(len(net.machines())))
            sure = live.sure()
            for turn in range(40):
                pick_any(chance, live)
                if chance.randrange(3) == 0:
                    live.keep(chance.choice(machines))
                if chance.randrange(12) == 0:
                    self.check_stop(live, chance.sample(machines, chance.randrange(len(machines) + 1)))
                if chance.randrange(15) == 0:
                    live.let_go()
                self.assertTrue(all(low <= high for low, high in zip(sure, live.sure())))
                sure = live.sure()
            self.assertEqual(live.settle(), counts_of(live.run()))


class NothingKeptTest(unittest.TestCase):
    def test_what_is_handed_in_stays(self):
        live = picked(Kept(two_counters()), [(1, 0), (0, 0)])
        stopped = [1, 0]
        live.stop(stopped)
        self.assertEqual(stopped, [1, 0])
        stopped.append(9)
        self.assertEqual(live.stop([]), ((0, 0), []))

    def test_lists_told_may_be_changed(self):
        live = picked(Plain(to_and_fro_net()), to_and_fro_picks(2))
        before = copied(all_told(live.run()))
        for told in (live.history(), live.points(0), live.reach(0), live.let_go(), live.let_go()[0], live.stop([])[1]):
            told.append("more")
            told.reverse()
        self.assertEqual(all_told(live.run()), before)
        self.assertEqual([live.points(0), live.reach(0), live.let_go()], [[0], [0, 2], [[], []]])
        self.assertEqual(live.stop([]), ((2, 2), []))
        falls = live.stop([0])[1]
        falls.clear()
        self.assertEqual(live.history(), [])

    def test_two_live_nets_of_one_net(self):
        net = two_counters()
        one, other = Kept(net), Kept(net)
        picked(one, [(1, 0), (0, 0)])
        self.assertEqual(other.history(), [])
        one.stop([0])
        self.assertEqual(all_told(other.run()), all_told(Run(net)))


if __name__ == "__main__":
    unittest.main()
