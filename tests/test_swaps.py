"""[13] exchanges, and schedules that are alike."""

import random
import unittest

from cutrestore.errors import NoLetter, NotFirst
from cutrestore.hearsay import word_of
from cutrestore.nets import Net
from cutrestore.runs import played_run
from cutrestore.swaps import are_alike, swaps_to
from things import BIG, all_told, copied, counter, crossing_run, events_ahead, events_of, lively_run, picks_that_may_be
from things import two_counters


def told_but_schedule(run):
    return all_told(run)[1:]


def alike_schedule(chance, run):
    """Another schedule with the events of a run, each behind all that are ahead of it."""
    ahead = events_ahead(run)
    picks = dict(zip(events_of(run), run.schedule()))
    done, schedule = set(), []
    while len(done) < len(ahead):
        event = chance.choice([one for one in ahead if one not in done and ahead[one] <= done])
        done.add(event)
        schedule.append(picks[event])
    return schedule


def pairs_the_other_way_round(schedule, other):
    pairs = [(one, two) for at, two in enumerate(schedule) for one in schedule[:at]]
    return len([one for one, two in pairs if other.index(one) > other.index(two)])


def all_schedules(net, many):
    """All schedules of so many picks."""
    schedules = [[]]
    for turn in range(many):
        schedules = [one + [pick] for one in schedules for pick in picks_that_may_be(played_run(net, one))]
    return schedules


def all_reached(net, schedule):
    """All schedules that come of one by exchanges of neighbours that are beside one another."""
    reached = [schedule]
    for one in reached:
        events = events_of(played_run(net, one))
        for k in range(len(one) - 1):
            other = one[:k] + [one[k + 1], one[k]] + one[k + 2:]
            if word_of(played_run(net, one), events[k], events[k + 1]) == "beside" and other not in reached:
                reached.append(other)
    return reached


class SwapsTest(unittest.TestCase):
    def check(self, net, schedule, other):
        """Play each exchange, as anybody can."""
        swaps = swaps_to(net, schedule, other)
        self.assertIsInstance(swaps, list)
        self.assertEqual(len(swaps), pairs_the_other_way_round(schedule, other))
        self.assertIs(are_alike(net, schedule, other), True)
        told = told_but_schedule(played_run(net, schedule))
        picks = list(schedule)
        for k in swaps:
            self.assertIn(k, range(len(picks) - 1))
            run = played_run(net, picks)
            one, two = run.worked_by(*picks[k]), run.worked_by(*picks[k + 1])
            self.assertEqual(word_of(run, one, two), "beside")
            picks[k], picks[k + 1] = picks[k + 1], picks[k]
            self.assertEqual(told_but_schedule(played_run(net, picks)), told)
        self.assertEqual(picks, other)
        return swaps

    def check_not(self, net, schedule, other):
        for one, two in [(schedule, other), (other, schedule)]:
            self.assertIs(are_alike(net, one, two), False)
            self.assertIsNone(swaps_to(net, one, two))

    def test_the_same(self):
        schedule = [(1, 0), (0, 0), (1, 1), (0, 1)]
        self.assertEqual(self.check(two_counters(), schedule, list(schedule)), [])
        self.assertEqual(self.check(two_counters(), [(1, 0)], [(1, 0)]), [])

    def test_empty_ones(self):
        self.assertEqual(swaps_to(two_counters(), [], []), [])
        self.assertIs(are_alike(two_counters(), [], []), True)
        self.check_not(two_counters(), [], [(1, 0)])
        self.assertEqual(swaps_to(Net([counter()], [], []), [], []), [])

    def test_one_exchange(self):
        self.assertEqual(self.check(two_counters(), [(1, 0), (0, 0)], [(0, 0), (1, 0)]), [0])
        schedule = [(1, 0), (0, 0), (0, 1), (1, 1)]
        self.assertEqual(self.check(two_counters(), schedule, [(1, 0), (0, 0), (1, 1), (0, 1)]), [2])

    def test_several_exchanges(self):
        schedule = [(1, 0), (1, 1), (1, 2), (0, 0), (0, 1), (0, 2)]
        other = [(0, 0), (1, 0), (0, 1), (1, 1), (0, 2), (1, 2)]
        self.assertEqual(len(self.check(two_counters(), schedule, other)), 6)
        self.assertEqual(len(self.check(two_counters(), other, schedule)), 6)

    def test_of_unlike_length(self):
        self.check_not(two_counters(), [(1, 0), (0, 0)], [(1, 0)])
        self.check_not(two_counters(), [(1, 0), (0, 0)], [(1, 0), (0, 0), (1, 1)])
        self.check_not(two_counters(), [(1, 0), (0, 0)], [(0, 0)])

    def test_other_picks_at_one_machine(self):
        self.check_not(two_counters(), [(1, 0), (0, 0)], [(1, 0), (1, 1)])
        self.check_not(two_counters("heap"), [(1, 0), (0, 0)], [(1, 1), (0, 0)])

    def test_another_order_at_one_machine(self):
        self.check_not(two_counters("heap"), [(1, 0), (1, 1)], [(1, 1), (1, 0)])
        ways = [(0, 1, "row"), (0, 1, "row"), (1, 0, "heap")]
        net = Net([counter(), counter()], ways, [(0, 1), (1, 1), (2, 1)])
        self.check_not(net, [(0, 0), (1, 0), (2, 0)], [(1, 0), (0, 0), (2, 0)])
        self.check(net, [(0, 0), (1, 0), (2, 0)], [(2, 0), (0, 0), (1, 0)])

    def test_same_states_but_not_alike(self):
        net = Net([counter(7, 0, 0)], [(0, 0, "heap")], [(0, 3), (0, 3)])
        self.assertEqual(played_run(net, [(0, 0), (0, 1)]).state(0), played_run(net, [(0, 1), (0, 0)]).state(0))
        self.check_not(net, [(0, 0), (0, 1)], [(0, 1), (0, 0)])

    def test_many_that_come_of_one_another(self):
        for seed in range(30):
            chance = random.Random(seed)
            run = lively_run(chance, 16)
            other = alike_schedule(chance, run)
            self.check(run.net(), run.schedule(), other)
            self.check(run.net(), alike_schedule(chance, run), other)

    def test_alike_are_just_those_that_come_of_one_another(self):
        for net in [two_counters("heap"), two_counters("row")]:
            for many in (2, 3, 4):
                schedules = all_schedules(net, many)
                for one in schedules[::7]:
                    reached = all_reached(net, one)
                    for other in schedules:
                        self.assertIs(are_alike(net, one, other), other in reached)
                        self.assertIs(swaps_to(net, one, other) is not None, other in reached)

    def test_the_longest(self):
        run = crossing_run(60)
        other = alike_schedule(random.Random(1), run)
        self.assertEqual(len(run.schedule()), 120)
        self.check(run.net(), run.schedule(), other)
        net = Net([counter(97), counter(97)], [(0, 0, "row"), (1, 1, "row")], [(0, 1), (1, 1)])
        one, two = [(0, number) for number in range(60)], [(1, number) for number in range(60)]
        swaps = swaps_to(net, one + two, two + one)
        self.assertEqual(len(swaps), 3600)
        # To play all of these again would take long; each must be of a pick of either machine.
        picks = one + two
        for k in swaps:
            self.assertEqual([picks[k][0], picks[k + 1][0]], [0, 1])
            picks[k], picks[k + 1] = picks[k + 1], picks[k]
        self.assertEqual(picks, two + one)


class RefusedTest(unittest.TestCase):
    def at_of(self, error, schedule, other, sort="row"):
        ats = []
        for ask in (are_alike, swaps_to):
            with self.assertRaises(error) as told:
                ask(two_counters(sort), schedule, other)
            ats.append(told.exception.at)
        self.assertEqual(ats[0], ats[1])
        return ats[0]

    def test_each_is_refused_as_it_is_played(self):
        good = [(1, 0), (0, 0)]
        self.assertEqual(self.at_of(NoLetter, [(1, 0), (1, 0)], good), 1)
        self.assertEqual(self.at_of(NoLetter, good, [(1, 0), (0, 0), (9, 0)]), 2)
        self.assertEqual(self.at_of(NotFirst, [(1, 1), (9, 9)], good), 0)
        self.assertEqual(self.at_of(NotFirst, good, [(1, 0), (1, 2)]), 1)
        self.assertEqual(self.at_of(NoLetter, good, [(BIG, -BIG)]), 0)
        self.assertEqual(self.at_of(NoLetter, good, [(1, 2), (1, 2)], "heap"), 1)

    def test_the_first_one_first(self):
        self.assertEqual(self.at_of(NotFirst, [(1, 0), (0, 0), (1, 2)], [(9, 9)]), 2)
        self.assertEqual(self.at_of(NoLetter, [(1, 0), (1, 0)], [(1, 1)]), 1)

    def test_refused_though_of_unlike_length(self):
        self.assertEqual(self.at_of(NoLetter, [], [(1, 0), (7, 0)]), 1)
        self.assertEqual(self.at_of(NotFirst, [(1, 0), (0, 0), (1, 2)], []), 2)


class NothingChangedTest(unittest.TestCase):
    def test_what_is_handed_in_stays(self):
        net = two_counters()
        schedule, other = [(1, 0), (0, 0), (1, 1)], [(0, 0), (1, 0), (1, 1)]
        before = copied([schedule, other])
        swaps = swaps_to(net, schedule, other)
        are_alike(net, schedule, other)
        self.assertEqual([schedule, other], before)
        self.assertEqual([net.ways(), net.letters()], [two_counters().ways(), two_counters().letters()])
        swaps.append(9)
        self.assertEqual(swaps_to(net, schedule, other), [0])
        self.assertEqual([schedule, other], before)


if __name__ == "__main__":
    unittest.main()
