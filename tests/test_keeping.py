"""[18, 19] and [2, 3] of each way of keeping: drawn deeds, held against a plain player."""

import random
import unittest

from cutrestore.alone import Alone
from cutrestore.cuts import orphans_of
from cutrestore.errors import NetError, NoLetter, NoMachine
from cutrestore.numbered import Numbered
from cutrestore.runs import Run, played_run
from cutrestore.written import Ahead, Passing
from things import BIG, all_told, copied, counts_of, crossing_run, fallen, latest_by_hearsay, lively_net, machines_of
from things import picked, picks_that_may_be, told_live, two_counters

SORTS = {"alone": Alone, "numbers": Numbered, "ahead": Ahead, "passing": Passing}


class Player:
    """A plain live net: it holds its picks, what was kept and how far was written, and reckons all else anew."""

    def __init__(self, sort, net):
        self.sort, self.net, self.picks = sort, net, []
        self.kept = [[(0, 0)] for machine in net.machines()]
        self.written = [0 for machine in net.machines()]
        self.bears = {}

    def run(self):
        return played_run(self.net, self.picks)

    def points(self, m):
        if self.sort in ("ahead", "passing"):
            return list(range(self.kept[m][0][0], self.written[m] + 1))
        return sorted({c for c, number in self.kept[m]})

    def reach(self, m):
        count = self.run().count(m)
        if self.sort in ("ahead", "passing"):
            return list(range(self.kept[m][0][0], count + 1))
        return sorted(set(self.points(m)) | {count})

    def pick(self, way, number):
        before, run = self.run(), self.run()
        m, c = event = run.pick(way, number)
        mine = self.kept[m][-1][1]
        borne = self.bears.get((way, number), 0)
        if self.sort == "numbers" and borne > mine:
            self.kept[m].append((c - 1, borne))
        if self.sort == "ahead":
            self.written[m] = c
        for way_out in range(len(self.net.ways())):
            for letter in range(before.put_many(way_out), run.put_many(way_out)):
                self.bears[(way_out, letter)] = max(borne, mine)
        self.picks.append((way, number))
        return event

    def write(self, m):
        many = self.run().count(m) - self.written[m]
        self.written[m] += many
        return many

    def keep(self, m):
        self.write(m)
        count, number = self.run().count(m), self.kept[m][-1][1] + 1
        if self.sort == "numbers":
            self.kept[m].append((count, number))
            return number
        if self.kept[m][-1][0] < count:
            self.kept[m].append((count, 0))
        return count

    def line(self, stopped):
        machines = range(len(self.kept))
        return latest_by_hearsay(self.run(), [self.points(m) if m in stopped else self.reach(m) for m in machines])

    def sure(self):
        return self.line(range(len(self.kept)))

    def stop(self, stopped):
        run, cut = self.run(), self.line(stopped)
        events = [run.worked_by(*pick) for pick in self.picks]
        self.picks = [pick for pick, (m, c) in zip(self.picks, events) if c <= cut[m]]
        self.kept = [[keep for keep in keeps if keep[0] <= c] for keeps, c in zip(self.kept, cut)]
        self.written = [min(c, far) for far, c in zip(self.written, cut)]
        put = self.run()
        self.bears = {(way, k): n for (way, k), n in self.bears.items() if k < put.put_many(way)}
        return cut

    def let_go(self):
        went = []
        for m, c in enumerate(self.sure()):
            least = max(count for count, number in self.kept[m] if count <= c)
            went.append([point for point in self.points(m) if point < least])
            self.kept[m] = [keep for keep in self.kept[m] if keep[0] >= least]
        return went

    def settle(self):
        for m in range(len(self.kept)):
            (self.write if self.sort in ("ahead", "passing") else self.keep)(m)
        return self.sure()

    def store(self, m):
        run, first = self.run(), self.kept[m][0][0]
        letters = []
        for way, number in self.picks:
            goal, c = run.worked_by(way, number)
            if goal == m and first < c <= self.written[m]:
                letters.append((c, self.net.ways_in(m).index(way), run.said(way, number)))
        return ([(c, run.state_behind(m, c)) for c, number in self.kept[m]], letters)

    def keeps(self, m):
        return [keep for keep in self.kept[m] if keep[1] > 0]


def drawn_deed(chance, machines, run):
    """The name of a deed, and what is handed to it."""
    name = chance.choice(["pick"] * 8 + ["keep"] * 2 + ["write", "stop", "let_go", "settle"])
    if name == "pick":
        picks = picks_that_may_be(run)
        return (name, list(chance.choice(picks))) if picks else ("stop", [machines])
    if name == "stop":
        return (name, [chance.sample(machines, chance.randrange(len(machines) + 1))])
    return (name, [chance.choice(machines)] if name in ("keep", "write") else [])


def is_known(sort, name):
    """Whether a way of keeping knows a deed."""
    return name != "write" or sort == "passing"


class DrawnDeedsTest(unittest.TestCase):
    def play(self, sort, seed, many):
        chance = random.Random(seed)
        net = lively_net(chance)
        live, player = SORTS[sort](net), Player(sort, net)
        sure = live.sure()
        for turn in range(many):
            name, handed = drawn_deed(chance, machines_of(live), player.run())
            if is_known(sort, name):
                self.do(live, player, name, handed)
            self.compare(live, player)
            self.assertTrue(all(low <= high for low, high in zip(sure, live.sure())))
            sure = live.sure()
        return live

    def do(self, live, player, name, handed):
        before, run = told_live(live) if handed == [[]] else None, live.run()
        handed_before = copied(handed)
        reached = [live.points(m) if name == "stop" and m in handed[0] else live.reach(m) for m in machines_of(live)]
        told = getattr(live, name)(*handed)
        self.assertEqual(handed, handed_before)
        expected = getattr(player, name)(*handed)
        if name == "stop":
            cut, falls = told
            self.assertEqual([type(told), type(cut), type(falls)], [tuple, tuple, list])
            self.assertEqual(fallen(run, reached, [counts[-1] for counts in reached], falls), cut)
            self.assertEqual(orphans_of(run, cut), [])
            told = cut
            if handed == [[]]:
                self.assertEqual([falls, told_live(live)], [[], before])
        if name == "settle":
            self.assertEqual(told, counts_of(live.run()))
        if name == "let_go":
            self.assertEqual(live.let_go(), [[] for m in machines_of(live)])
        self.assertEqual(told, expected)

    def compare(self, live, player):
        run = player.run()
        self.assertEqual(live.history(), player.picks)
        self.assertEqual(all_told(live.run()), all_told(run))
        self.assertEqual(live.sure(), player.sure())
        for m in machines_of(live):
            self.assertEqual([live.points(m), live.reach(m)], [player.points(m), player.reach(m)])
        if player.sort in ("ahead", "passing"):
            self.assertEqual([live.store(m) for m in machines_of(live)], [player.store(m) for m in machines_of(live)])
        if player.sort == "numbers":
            self.compare_numbers(live, player, run)

    def compare_numbers(self, live, player, run):
        for m in machines_of(live):
            keeps = player.keeps(m)
            self.assertEqual(live.keeps(m), keeps)
            self.assertEqual(live.number_of(m), keeps[-1][1] if keeps else 0)
        for way in range(len(run.net().ways())):
            bears = [player.bears.get((way, number), 0) for number in range(run.put_many(way))]
            self.assertEqual([live.borne(way, number) for number in range(run.put_many(way))], bears)

    def test_drawn_deeds(self):
        for sort in SORTS:
            events = 0
            for seed in range(25):
                with self.subTest(sort=sort, seed=seed):
                    events += len(self.play(sort, seed, 40).history())
            self.assertGreater(events, 100)

    def test_long(self):
        for sort in SORTS:
            live = picked(SORTS[sort](crossing_run(0).net()), crossing_run(60).schedule())
            live.settle()
            picked(live, crossing_run(100).schedule()[120:])
            self.assertEqual(len(live.run().schedule()), 200)
            line = (100, 100) if sort == "ahead" else (60, 60)
            self.assertEqual([live.sure(), live.stop([1, 0])[0]], [line, line])
            self.assertEqual(live.history(), crossing_run(line[0]).schedule())
            self.assertEqual(all_told(live.run()), all_told(crossing_run(line[0])))


class RefusedTest(unittest.TestCase):
    def test_what_is_refused_changes_nothing(self):
        for sort in SORTS:
            live = SORTS[sort](two_counters())
            picked(live, [(1, 0), (0, 0)])
            live.settle()
            picked(live, [(1, 1), (0, 1)])
            before = told_live(live)
            for way, number in [(1, 0), (1, 3), (0, 3), (2, 0), (-1, 0), (0, -1), (BIG, BIG)]:
                with self.subTest((sort, way, number)), self.assertRaises(NetError) as told:
                    live.pick(way, number)
                self.assertEqual(told.exception.at, 0)
                self.assertEqual(told_live(live), before)
            for stopped in ([2], [0, 2], [-1], [0, 0], [True], ["0"], [None], [[0]], [BIG], [0, 1, 0], [{}]):
                with self.subTest((sort, stopped)), self.assertRaises(NoMachine):
                    live.stop(stopped)
                self.assertEqual(told_live(live), before)
            for ask in ("points", "reach", "keep", "write", "store", "keeps", "number_of"):
                for m in (2, -1, BIG, -BIG):
                    if hasattr(live, ask):
                        with self.subTest((sort, ask, m)), self.assertRaises(NoMachine):
                            getattr(live, ask)(m)
            self.assertEqual(told_live(live), before)


class LetGoTest(unittest.TestCase):
    def test_no_stop_leads_to_another_line_for_it(self):
        for sort in SORTS:
            went = 0
            for seed in range(30):
                went += self.play(sort, seed)
            self.assertGreater(went, 50)

    def play(self, sort, seed):
        """The same deeds with letting go and without: how many points went."""
        chance = random.Random(seed)
        net = lively_net(chance)
        live, other = SORTS[sort](net), SORTS[sort](net)
        went = 0
        for turn in range(40):
            name, handed = drawn_deed(chance, machines_of(live), other.run())
            if name == "let_go":
                gone = live.let_go()
                self.check_gone(live, other, gone)
                went += sum(len(counts) for counts in gone)
            elif is_known(sort, name):
                self.assertEqual(getattr(live, name)(*handed), getattr(other, name)(*handed))
            self.assertEqual([live.history(), live.sure()], [other.history(), other.sure()])
            if sort == "numbers":
                self.assertEqual([live.number_of(m) for m in machines_of(live)],
                                 [other.number_of(m) for m in machines_of(live)])
        return went

    def check_gone(self, live, other, gone):
        """What went and what is there still are, in all, among what is there where nothing was let go."""
        self.assertEqual([type(gone)] + [type(counts) for counts in gone], [list] * (len(gone) + 1))
        for m in machines_of(live):
            points = live.points(m)
            self.assertEqual(points, other.points(m)[-len(points):])
            self.assertEqual(gone[m], sorted(set(gone[m])))
            self.assertEqual([c for c in gone[m] if c not in other.points(m) or c >= points[0]], [])


class WithoutStopsTest(unittest.TestCase):
    def test_settled_all_stand_alike(self):
        for seed in range(20):
            chance = random.Random(seed)
            run = Run(lively_net(chance))
            nets = [kind(run.net()) for kind in SORTS.values()]
            for turn in range(30):
                picks = picks_that_may_be(run)
                if picks:
                    pick = chance.choice(picks)
                    run.pick(*pick)
                    for live in nets:
                        live.pick(*pick)
                live = chance.choice(nets)
                chance.choice([live.keep, lambda m: live.let_go()])(chance.choice(machines_of(live)))
            for live in nets:
                self.assertEqual(live.settle(), counts_of(run))
                self.assertEqual([live.sure(), live.settle()], [counts_of(run)] * 2)
                self.assertEqual(all_told(live.run()), all_told(run))


class NothingKeptTest(unittest.TestCase):
    def test_lists_told_may_be_changed(self):
        for sort in SORTS:
            live = SORTS[sort](two_counters())
            picked(live, [(1, 0), (0, 0)])
            live.settle()
            picked(live, [(1, 1)])
            before = told_live(live)
            for told in (live.points(0), live.reach(0), live.history(), live.stop([])[1], live.run().lying(0)):
                told.append("more")
                told.reverse()
            self.assertEqual(told_live(live), before)
            for told in (live.stop([0])[1], live.let_go(), live.let_go()[0]):
                told.append([9])
                told.reverse()
            self.assertEqual(live.let_go(), [[], []])

    def test_two_live_nets_of_one_net(self):
        for sort in SORTS:
            net = two_counters()
            one, other = SORTS[sort](net), SORTS[sort](net)
            before = told_live(other)
            picked(one, [(1, 0), (0, 0)])
            one.settle()
            one.let_go()
            one.stop([0])
            self.assertEqual(told_live(other), before)
            with self.assertRaises(NoLetter):
                other.pick(0, 1)


if __name__ == "__main__":
    unittest.main()
