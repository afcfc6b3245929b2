"""[21, 22] letters written down, ahead and in passing."""

import random
import unittest

from cutrestore.errors import NoCount, NoMachine
from cutrestore.live import Live
from cutrestore.nets import Net
from cutrestore.stores import counts_reached, restored_state
from cutrestore.written import Ahead, Passing
from things import BIG, copied, counter, counts_of, events_ahead, lively_net, machines_of, pick_any, picked
from things import to_and_fro, told_live, two_counters

# What machine 0 of the two counters is behind so many letters 3, 4, -1.
STATES = [((0,), ()), ((3,), ()), ((7,), ()), ((6,), ())]


def to_and_fro_live(kind, many):
    """A letter went to and fro so many times."""
    return picked(kind(to_and_fro(0).net()), to_and_fro(many).schedule())


class BothTest(unittest.TestCase):
    def test_both_are_live_and_none_is_under_the_other(self):
        net = two_counters()
        for kind in (Ahead, Passing):
            self.assertIsInstance(kind(net), Live)
            self.assertIs(kind(net).net(), net)
        self.assertFalse(issubclass(Ahead, Passing))
        self.assertFalse(issubclass(Passing, Ahead))

    def test_at_first(self):
        for kind in (Ahead, Passing):
            live = kind(two_counters())
            self.assertEqual(live.store(0), ([(0, ((0,), ()))], []))
            self.assertEqual(live.store(1), ([(0, ((50,), ()))], []))
            self.assertEqual([live.points(0), live.reach(0), live.sure()], [[0], [0], (0, 0)])

    def test_kinds(self):
        for kind in (Ahead, Passing):
            live = picked(kind(two_counters()), [(1, 0)])
            live.keep(0)
            keeps, letters = store = live.store(0)
            self.assertEqual([type(thing) for thing in (store, keeps, letters)], [tuple, list, list])
            self.assertEqual([type(keep) for keep in keeps] + [type(letters[0])], [tuple, tuple, tuple])

    def test_w_is_the_place_among_the_ways_in(self):
        ways = [(0, 1, "row"), (1, 1, "row"), (1, 0, "heap"), (0, 1, "row")]
        net = Net([counter(9), counter(9, 0, 0)], ways, [(3, 7), (0, -5), (1, 10 ** 59), (2, 4), (0, 6)])
        for kind in (Ahead, Passing):
            live = picked(kind(net), [(3, 0), (1, 0), (0, 0), (2, 0), (0, 1)])
            live.keep(1)
            live.keep(0)
            self.assertEqual(live.store(1)[1], [(1, 2, 7), (2, 1, 10 ** 59), (3, 0, -5), (4, 0, 6)])
            self.assertEqual(live.store(0)[1], [(1, 0, 4)])

    def test_keep_writes_first_and_tells_the_count(self):
        for kind in (Ahead, Passing):
            live = picked(kind(two_counters()), [(1, 0), (1, 1)])
            self.assertEqual(live.keep(0), 2)
            self.assertEqual(live.store(0), ([(0, STATES[0]), (2, STATES[2])], [(1, 0, 3), (2, 0, 4)]))
            self.assertEqual([live.points(0), live.keep(1), live.points(1)], [[0, 1, 2], 0, [0]])
            self.assertEqual(live.store(1), ([(0, ((50,), ()))], []))
            live.pick(1, 2)
            self.assertEqual(live.keep(0), 3)
            self.assertEqual(live.store(0), (
                [(0, STATES[0]), (2, STATES[2]), (3, STATES[3])], [(1, 0, 3), (2, 0, 4), (3, 0, -1)]))

    def test_each_count_once(self):
        for kind in (Ahead, Passing):
            live = picked(kind(two_counters()), [(1, 0)])
            self.assertEqual([live.keep(0), live.keep(0), live.keep(1), live.keep(1)], [1, 1, 0, 0])
            self.assertEqual(live.store(0), ([(0, STATES[0]), (1, STATES[1])], [(1, 0, 3)]))
            self.assertEqual(live.store(1), ([(0, ((50,), ()))], []))

    def test_no_machine(self):
        for kind in (Ahead, Passing):
            live = picked(kind(two_counters()), [(1, 0), (0, 0)])
            live.keep(0)
            before = told_live(live)
            asks = [live.keep, live.store, live.points, live.reach] + ([live.write] if kind is Passing else [])
            for m in (-1, -2, 2, 3, 5, BIG, -BIG, 10 ** 60 - 1, 1 - 10 ** 60):
                for ask in asks:
                    with self.subTest((ask, m)), self.assertRaises(NoMachine):
                        ask(m)
            self.assertEqual(told_live(live), before)

    def test_stores_told_may_be_changed(self):
        for kind in (Ahead, Passing):
            live = to_and_fro_live(kind, 2)
            live.keep(0)
            before = told_live(live)
            for told in (live.store(0) + live.store(1) + (live.points(0), live.reach(0), live.history())):
                told.append("more")
                told.reverse()
            self.assertEqual(told_live(live), before)


class AheadTest(unittest.TestCase):
    def test_each_letter_is_written(self):
        live = Ahead(two_counters())
        live.pick(1, 0)
        self.assertEqual(live.store(0), ([(0, STATES[0])], [(1, 0, 3)]))
        picked(live, [(0, 0), (1, 1)])
        self.assertEqual(live.store(0), ([(0, STATES[0])], [(1, 0, 3), (2, 0, 4)]))
        self.assertEqual(live.store(1), ([(0, ((50,), ()))], [(1, 0, 8)]))
        self.assertEqual([live.points(0), live.points(1), live.reach(0)], [[0, 1, 2], [0, 1], [0, 1, 2]])
        self.assertEqual(live.sure(), (2, 1))

    def test_a_refused_pick_is_not_written(self):
        live = picked(Ahead(two_counters()), [(1, 0)])
        before = told_live(live)
        for way, number in [(1, 0), (1, 2), (0, 2), (5, 0), (-1, 0), (0, BIG)]:
            with self.subTest((way, number)), self.assertRaises(ValueError):
                live.pick(way, number)
            self.assertEqual(told_live(live), before)

    def test_nobody_goes_back(self):
        for stopped in ([0], [1], [0, 1], []):
            live = to_and_fro_live(Ahead, 3)
            live.keep(0)
            live.pick(1, 3)
            before = told_live(live)
            self.assertEqual(live.stop(stopped), ((4, 3), []))
            self.assertEqual(told_live(live), before)

    def test_settling_writes_nothing_more(self):
        live = to_and_fro_live(Ahead, 2)
        before = told_live(live)
        self.assertEqual([live.settle(), live.settle()], [(2, 2), (2, 2)])
        self.assertEqual(told_live(live), before)

    def test_letting_go(self):
        live = to_and_fro_live(Ahead, 1)
        live.keep(0)
        picked(live, [(1, 1), (0, 1)])
        live.keep(0)
        picked(live, [(1, 2), (0, 2)])
        keeps, letters = live.store(0)
        self.assertEqual([[c for c, state in keeps], live.sure()], [[0, 1, 2], (3, 3)])
        self.assertEqual(live.let_go(), [[0, 1], []])
        self.assertEqual(live.store(0), (keeps[2:], letters[2:]))
        self.assertEqual([live.points(0), live.points(1), live.reach(0)], [[2, 3], [0, 1, 2, 3], [2, 3]])
        self.assertEqual(live.let_go(), [[], []])
        live.keep(0)
        live.keep(1)
        self.assertEqual(live.let_go(), [[2], [0, 1, 2]])
        self.assertEqual(live.store(0), ([(3, live.run().state(0))], []))
        self.assertEqual([live.points(0), live.points(1), live.sure()], [[3], [3], (3, 3)])
        live.pick(1, 3)
        self.assertEqual([live.points(0), live.store(0)[1][0][0]], [[3, 4], 4])


class PassingTest(unittest.TestCase):
    def test_write_tells_how_many(self):
        live = Passing(two_counters())
        self.assertEqual(live.write(0), 0)
        picked(live, [(1, 0), (0, 0), (1, 1)])
        self.assertEqual([live.store(0)[1], live.points(0), live.reach(0)], [[], [0], [0, 1, 2]])
        self.assertEqual([live.write(0), live.write(0)], [2, 0])
        self.assertEqual(live.store(0), ([(0, STATES[0])], [(1, 0, 3), (2, 0, 4)]))
        self.assertEqual([live.points(0), live.points(1)], [[0, 1, 2], [0]])
        live.pick(1, 2)
        self.assertEqual([live.points(0), live.write(0), live.write(1)], [[0, 1, 2], 1, 1])
        self.assertEqual(live.store(0), ([(0, STATES[0])], [(1, 0, 3), (2, 0, 4), (3, 0, -1)]))

    def test_nothing_is_left_behind_a_keep(self):
        live = picked(Passing(two_counters()), [(1, 0), (1, 1)])
        live.keep(0)
        self.assertEqual(live.write(0), 0)

    def test_a_stop_loses_what_was_not_written(self):
        live = to_and_fro_live(Passing, 1)
        live.write(0)
        picked(live, [(1, 1), (0, 1), (1, 2)])
        # The events (0, 2) and (0, 3) are lost, (1, 2) heard of one; (1, 1) did not.
        told = live.stop([0])
        self.assertEqual([told, live.history()], [((1, 1), [(1, 2, 1, (0, 1))]), [(1, 0), (0, 0)]])
        self.assertEqual([live.points(0), live.points(1), live.reach(1)], [[0, 1], [0], [0, 1]])
        self.assertEqual(live.stop([1])[0], (1, 0))

    def test_the_others_stay_where_none_is_lost(self):
        live = to_and_fro_live(Passing, 2)
        live.write(0)
        self.assertEqual(live.stop([0]), ((2, 2), []))
        self.assertEqual([live.points(1), live.reach(1)], [[0], [0, 1, 2]])
        # Machine 1 has its letters in hand still.
        self.assertEqual([live.write(1), live.points(1)], [2, [0, 1, 2]])

    def test_what_was_written_of_lost_events_is_forgotten(self):
        live = to_and_fro_live(Passing, 1)
        live.write(0)
        picked(live, [(1, 1), (0, 1)])
        live.keep(1)
        self.assertEqual([[c for c, state in live.store(1)[0]], len(live.store(1)[1])], [[0, 2], 2])
        self.assertEqual(live.stop([0])[0], (1, 1))
        keeps, letters = live.store(1)
        self.assertEqual([keeps, letters, live.points(1)], [[(0, ((0,), ()))], [(1, 0, 1)], [0, 1]])
        self.assertEqual([live.keep(1), live.write(1), live.store(1)[0]], [1, 0, [(0, ((0,), ())), (1, ((1,), ()))]])
        picked(live, [(1, 1), (0, 1)])
        self.assertEqual([live.write(1), live.points(1)], [1, [0, 1, 2]])

    def test_settling_writes(self):
        live = to_and_fro_live(Passing, 2)
        live.write(0)
        self.assertEqual(live.settle(), (2, 2))
        self.assertEqual([live.points(0), live.points(1)], [[0, 1, 2], [0, 1, 2]])
        self.assertEqual([len(live.store(0)[0]), len(live.store(1)[0])], [1, 1])
        before = told_live(live)
        self.assertEqual([live.settle(), live.write(0), live.write(1)], [(2, 2), 0, 0])
        self.assertEqual(told_live(live), before)
        self.assertEqual(live.stop([0, 1]), ((2, 2), []))

    def test_letting_go_goes_by_the_greatest_keep_that_is_sure(self):
        live = to_and_fro_live(Passing, 1)
        live.keep(0)
        live.keep(1)
        picked(live, [(1, 1), (0, 1), (1, 2)])
        live.keep(0)
        # Machine 1 has not written (1, 2), so the keep of machine 0 at 3 is not sure.
        self.assertEqual([live.sure(), live.points(0), live.points(1)], [(2, 1), [0, 1, 2, 3], [0, 1]])
        kept, letters = live.store(0)
        self.assertEqual(live.let_go(), [[0], [0]])
        self.assertEqual([live.store(0), live.store(1)], [(kept[1:], letters[1:]), ([(1, ((1,), ()))], [])])
        self.assertEqual([live.points(0), live.points(1)], [[1, 2, 3], [1]])
        live.write(1)
        self.assertEqual([live.sure(), live.let_go()], [(3, 2), [[1, 2], []]])
        self.assertEqual([live.store(0), live.points(1)], [(kept[2:], []), [1, 2]])
        self.assertEqual(live.stop([0, 1]), ((3, 2), []))
        self.assertEqual(live.let_go(), [[], []])


class LostTest(unittest.TestCase):
    def went_back(self, live, stopped):
        """Where each machine goes back to by the words of [22]."""
        run = live.run()
        lost = [(m, c) for m in stopped for c in range(live.points(m)[-1] + 1, run.count(m) + 1)]
        gone = set(lost) | {event for event, ahead in events_ahead(run).items() if ahead & set(lost)}
        firsts = [[c for one, c in gone if one == m] for m in machines_of(live)]
        return tuple(min(counts) - 1 if counts else run.count(m) for m, counts in enumerate(firsts))

    def test_each_goes_back_to_just_ahead_of_what_was_lost(self):
        seen = set()
        for seed in range(60):
            chance = random.Random(seed)
            live = Passing(lively_net(chance))
            machines = machines_of(live)
            for turn in range(30):
                pick_any(chance, live)
                if chance.randrange(4) == 0:
                    chance.choice([live.write, live.write, live.keep])(chance.choice(machines))
                if chance.randrange(20) == 0:
                    live.let_go()
                if chance.randrange(8) == 0:
                    stopped = chance.sample(machines, chance.randrange(1, len(machines) + 1))
                    counts, expected = counts_of(live.run()), self.went_back(live, stopped)
                    self.assertEqual(live.stop(stopped)[0], expected)
                    seen.add(sum(low < high for low, high in zip(expected, counts)))
                self.check_stores(live)
        self.assertEqual(seen, {0, 1, 2, 3, 4})

    def check_stores(self, live):
        run = live.run()
        for m in machines_of(live):
            keeps, letters = store = live.store(m)
            reached = counts_reached(store)
            self.assertEqual(reached, live.points(m))
            self.assertEqual([c for c, way, said in letters], list(range(keeps[0][0] + 1, reached[-1] + 1)))
            self.assertEqual(keeps, sorted(dict(keeps).items()))
            for c in range(-1, run.count(m) + 2):
                if c in reached:
                    state = restored_state(live.net().machines()[m], copied(store), c)
                    self.assertEqual(state, run.state_behind(m, c))
                else:
                    with self.assertRaises(NoCount):
                        restored_state(live.net().machines()[m], store, c)


if __name__ == "__main__":
    unittest.main()
